/- The law functions same, known of stage 7. -/
import Derived.Test.YtihjobpdphljiaaDotC
import Derived.Test.YtihjobpdphljiaaSepB
namespace Go.Proofs.Ytihjobpdphljiaa
open Go.RowKit

set_option maxRecDepth 100000 in
set_option maxHeartbeats 6400000 in
theorem l7same_any {w : World} {v v' : Value} {s d t k : List Int} (n0 : Int) (h : Ten w v s d) (g : Ten w v' t k) :
    Calls Try.prog 8 #[v, v', .int .i64 n0] w fun e w' => e = .returned (.bool true) ∧ Below w.heap.size w w' := by
  obtain ⟨A, n, c, B, m, e, rfl, hnc, hme, hI, hJ⟩ := h
  obtain ⟨A2, n2, c2, B2, m2, e2, rfl, hnc2, hme2, hI2, hJ2⟩ := g
  have h1 := ((Sep.nil w).allocBox w.heap.size 26 [.slice A n c, .slice B m e] rfl).allocBox (w.heap.size + 1) 26 [.slice A2 n2 c2, .slice B2 m2 e2] (by simp)
  have HT := Lib.hid (ten_mk hI hnc hJ hme)
  have HU := Lib.hid (ten_mk hI2 hnc2 hJ2 hme2)
  have HI1 := Lib.hid hI
  have HI2 := Lib.hid hI2
  clear hI hJ hI2 hJ2
  go_enter Try.func8, Try.ntmps8
  go_upto_region 1 with fail
  generalize (w.alloc (.cells #[.slice A n c, .slice B m e] 26)).alloc (.cells #[.slice A2 n2 c2, .slice B2 m2 e2] 26) = W at *
  have H := Lib.hid h1
  clear h1
  obtain ⟨rr, hr⟩ : ∃ r, dotR s d t k n0 = r := ⟨_, rfl⟩
  have HR := Lib.hid hr
  clear hr
  obtain ⟨sr, hsr⟩ : ∃ r, dsR s t n0 = r := ⟨_, rfl⟩
  have HSR := Lib.hid hsr
  clear hsr
  have t0 := H.out.cell 1 0 rfl rfl
  have t1 := H.out.cell 1 1 rfl rfl
  have u0 := H.out.cell 0 0 rfl rfl
  have u1 := H.out.cell 0 1 rfl rfl
  have C0 := dtDo_any n0 (H.out.oldTen HT.out) (H.out.oldTen HU.out)
  rw [HR.out] at C0
  go_wp2_with fail
  refine C0.mono ?_; rintro e0 w0 ⟨⟨u, rfl, hu⟩, hb⟩
  obtain ⟨Sx, nx, cx, Dx, mx, dx, rfl, _, _, _, _, _, h5⟩ := H.out.addTen hb hu
  have h6 := h5.allocBox w0.heap.size 26 [.slice Sx nx cx, .slice Dx mx dx] rfl
  clear C0 hu hb h5 t0 t1 u0 u1
  go_upto_region 2 with fail
  generalize w0.alloc (.cells #[.slice Sx nx cx, .slice Dx mx dx] 26) = v0 at *
  generalize w0.heap.size = gx at *
  replace H := Lib.hid h6
  clear h6
  have t0 := H.out.cell 4 0 rfl rfl
  have t1 := H.out.cell 4 1 rfl rfl
  have u0 := H.out.cell 3 0 rfl rfl
  have u1 := H.out.cell 3 1 rfl rfl
  have C1 := refDot_any n0 (H.out.oldTen HT.out) (H.out.oldTen HU.out)
  rw [HR.out] at C1
  go_wp2_with fail
  refine C1.mono ?_; rintro e1 w1 ⟨⟨u, rfl, hu⟩, hb⟩
  obtain ⟨Sy, ny, cy, Dy, my, dy, rfl, _, _, _, _, _, h5⟩ := H.out.addTen hb hu
  have h6 := h5.allocBox w1.heap.size 26 [.slice Sy ny cy, .slice Dy my dy] rfl
  clear C1 hu hb h5 t0 t1 u0 u1
  go_upto_region 3 with fail
  generalize w1.alloc (.cells #[.slice Sy ny cy, .slice Dy my dy] 26) = v1 at *
  generalize w1.heap.size = gy at *
  replace H := Lib.hid h6
  clear h6
  have t0 := H.out.cell 7 0 rfl rfl
  have t1 := H.out.cell 7 1 rfl rfl
  have u0 := H.out.cell 6 0 rfl rfl
  have u1 := H.out.cell 6 1 rfl rfl
  have CS := dtShape_any (ca := c) (cb := c2) n0 (H.out.oldI HI1.out) (H.out.oldI HI2.out) hnc hnc2
  rw [HSR.out] at CS
  go_wp2_with fail
  refine CS.mono ?_; rintro e5 w5 ⟨⟨v5, m5k, rfl, hO⟩, hb⟩
  obtain ⟨A5k, c5k, rfl, _, _, _⟩ := hO.form
  replace H := Lib.hid (H.out.addOwn hb hO)
  clear CS hb hO t0 t1 u0 u1
  have t0 := H.out.cell 8 0 rfl rfl
  have t1 := H.out.cell 8 1 rfl rfl
  have u0 := H.out.cell 7 0 rfl rfl
  have u1 := H.out.cell 7 1 rfl rfl
  have CS := refDotShape_any (ca := c) (cb := c2) n0 (H.out.oldI HI1.out) (H.out.oldI HI2.out) hnc hnc2
  rw [HSR.out] at CS
  go_wp2_with fail
  refine CS.mono ?_; rintro e5 w5 ⟨⟨v5, m5l, rfl, hO⟩, hb⟩
  obtain ⟨A5l, c5l, rfl, _, _, _⟩ := hO.form
  replace H := Lib.hid (H.out.addOwn hb hO)
  clear CS hb hO t0 t1 u0 u1
  have k1 : (rr.1 == rr.1) = true := by simp
  have k2 : (sr.1 == sr.1) = true := by simp
  have x0 := H.out.cell 5 0 rfl rfl
  have x1 := H.out.cell 5 1 rfl rfl
  have y0 := H.out.cell 2 0 rfl rfl
  have y1 := H.out.cell 2 1 rfl rfl
  have C2 := refSame_eq (ten_mk (H.out.ownInts 6 rfl).2.2 (H.out.ownInts 6 rfl).2.1 (H.out.ownInts 7 rfl).2.2 (H.out.ownInts 7 rfl).2.1) (ten_mk (H.out.ownInts 3 rfl).2.2 (H.out.ownInts 3 rfl).2.1 (H.out.ownInts 4 rfl).2.2 (H.out.ownInts 4 rfl).2.1)
  go_wp2_with fail
  refine C2.mono ?_; rintro e2 w2 ⟨rfl, hb⟩
  replace H := Lib.hid (H.out.below hb)
  clear C2 hb x0 x1 y0 y1
  go_wp2_with fail
  refine (bookSame_eq ((H.out.ownInts 1 rfl).2.2) ((H.out.ownInts 0 rfl).2.2)).mono ?_; rintro e9 w9 ⟨rfl, q9, rfl⟩
  replace H := Lib.hid (H.out.drewN q9)
  go_wp2
  go_ret
  exact ⟨rfl, H.out.base⟩
theorem k7_dot : dotR [2] [1, 2] [2] [3, 4] 0 = (0, [], [11]) := by kernel_rfl
theorem k7_arg : dotR [] [1] [2] [3, 4] 0 = refused 1 := by kernel_rfl
set_option maxRecDepth 100000 in
set_option maxHeartbeats 6400000 in
theorem l7known_any (w : World) :
    Calls Try.prog 9 #[] w fun e w' => e = .returned (.bool true) ∧ Below w.heap.size w w' := by
  have s1 := ((((Sep.nil w).lit 3 #[.int .i64 2] [2] 1 w.heap.size rfl rfl rfl).lit 2 #[.int .i64 1, .int .i64 2] [1, 2] 2 (w.heap.size + 1) (by simp) rfl rfl).lit 3 #[.int .i64 2] [2] 1 (w.heap.size + 1 + 1) (by simp) rfl rfl).lit 2 #[.int .i64 3, .int .i64 4] [3, 4] 2 (w.heap.size + 1 + 1 + 1) (by simp) rfl rfl
  have s2 := (s1.allocBox (w.heap.size + 1 + 1 + 1 + 1) 26 [.slice (some ⟨w.heap.size, 0, none⟩) 1 1, .slice (some ⟨w.heap.size + 1, 0, none⟩) 2 2] (by simp)).allocBox (w.heap.size + 1 + 1 + 1 + 1 + 1) 26 [.slice (some ⟨w.heap.size + 1 + 1, 0, none⟩) 1 1, .slice (some ⟨w.heap.size + 1 + 1 + 1, 0, none⟩) 2 2] (by simp)
  go_enter Try.func9, Try.ntmps9
  go_upto_region 2 with fail
  generalize ((((((w).alloc (.cells #[.int .i64 2] 3)).alloc (.cells #[.int .i64 1, .int .i64 2] 2)).alloc (.cells #[.int .i64 2] 3)).alloc (.cells #[.int .i64 3, .int .i64 4] 2)).alloc (.cells #[.slice (some ⟨w.heap.size, 0, none⟩) 1 1, .slice (some ⟨w.heap.size + 1, 0, none⟩) 2 2] 26)).alloc (.cells #[.slice (some ⟨w.heap.size + 1 + 1, 0, none⟩) 1 1, .slice (some ⟨w.heap.size + 1 + 1 + 1, 0, none⟩) 2 2] 26) = v0 at *
  have H := Lib.hid s2
  clear s1 s2
  have t0 := H.out.cell 1 0 rfl rfl
  have t1 := H.out.cell 1 1 rfl rfl
  have u0 := H.out.cell 0 0 rfl rfl
  have u1 := H.out.cell 0 1 rfl rfl
  have C0 := dtDo_any 0 (ten_mk (H.out.ownInts 5 rfl).2.2 (H.out.ownInts 5 rfl).2.1 (H.out.ownInts 4 rfl).2.2 (H.out.ownInts 4 rfl).2.1) (ten_mk (H.out.ownInts 3 rfl).2.2 (H.out.ownInts 3 rfl).2.1 (H.out.ownInts 2 rfl).2.2 (H.out.ownInts 2 rfl).2.1)
  rw [k7_dot] at C0
  go_wp2_with fail
  refine C0.mono ?_; rintro e0 w0 ⟨⟨u, rfl, hu⟩, hb⟩
  obtain ⟨Sx, nx, cx, Dx, mx, dx, rfl, hs, hd, _, _, _, h5⟩ := H.out.addTen hb hu
  have h6 := h5.allocBox w0.heap.size 26 [.slice Sx nx cx, .slice Dx mx dx] rfl
  have LDx := Lib.hid hd
  have LSx := Lib.hid hs
  clear C0 hu hb h5 hs hd t0 t1 u0 u1
  go_upto_region 3 with fail
  generalize w0.alloc (.cells #[.slice Sx nx cx, .slice Dx mx dx] 26) = v1 at *
  generalize w0.heap.size = gx at *
  replace H := Lib.hid h6
  clear h6
  replace H := Lib.hid (H.out.lit 2 #[.int .i64 1] [1] 1 v1.heap.size rfl rfl rfl)
  have u0 := H.out.cell 4 0 rfl rfl
  have u1 := H.out.cell 4 1 rfl rfl
  have C1 := dtDo_any 0 (ten_mk (Ints.nil_ _ none) (Nat.le_refl 0) (H.out.ownInts 0 rfl).2.2 (Nat.le_refl 1)) (ten_mk (H.out.ownInts 7 rfl).2.2 (H.out.ownInts 7 rfl).2.1 (H.out.ownInts 6 rfl).2.2 (H.out.ownInts 6 rfl).2.1)
  rw [k7_arg] at C1
  go_wp2_with fail
  refine C1.mono ?_; rintro e1 w1 ⟨⟨u, rfl, hu⟩, hb⟩
  obtain ⟨Sy, ny, cy, Dy, my, dy, rfl, hs, hd, _, _, _, h5⟩ := H.out.addTen hb hu
  have h6 := h5.allocBox w1.heap.size 26 [.slice Sy ny cy, .slice Dy my dy] rfl
  have LDy := Lib.hid hd
  have LSy := Lib.hid hs
  clear C1 hu hb h5 hs hd u0 u1
  go_upto_region 4 with fail
  generalize w1.alloc (.cells #[.slice Sy ny cy, .slice Dy my dy] 26) = v2 at *
  generalize w1.heap.size = gy at *
  replace H := Lib.hid h6
  clear h6
  obtain rfl : 1 = mx := LDx.out
  obtain rfl : 0 = nx := LSx.out
  obtain ⟨gbx, cb, hv, hOx⟩ := (H.out.ownS 6 rfl).own (by omega)
  injection hv with hv1 _ hv3
  subst hv1
  subst hv3
  have hcx := hOx.cell (j := 0) rfl
  have x0 := H.out.cell 4 0 rfl rfl
  have x1 := H.out.cell 4 1 rfl rfl
  clear hOx
  go_wp2
  go_ret
  exact ⟨rfl, H.out.base⟩
end Go.Proofs.Ytihjobpdphljiaa
