/- The law functions same, known of stage 8. -/
import Derived.Test.YtiigbkjkmfjhcaaWindowC
import Derived.Test.YtiigbkjkmfjhcaaSepB
namespace Go.Proofs.Ytiigbkjkmfjhcaa
open Go.RowKit

set_option maxRecDepth 100000 in
set_option maxHeartbeats 6400000 in
theorem l8same_any {w : World} {v : Value} {s d : List Int} (how ax wide apart : Int) (h : Ten w v s d) :
    Calls Try.prog 10 #[.int .i64 how, v, .int .i64 ax, .int .i64 wide, .int .i64 apart] w fun e w' => e = .returned (.bool true) ∧ Below w.heap.size w w' := by
  obtain ⟨A, n, c, B, m, e, rfl, hnc, hme, hI, hJ⟩ := h
  have h1 := (Sep.nil w).allocBox w.heap.size 27 [.slice A n c, .slice B m e] rfl
  have HT := Lib.hid (ten_mk hI hnc hJ hme)
  clear hI hJ
  go_enter Try.func10, Try.ntmps10
  go_upto_region 1 with fail
  generalize w.alloc (.cells #[.slice A n c, .slice B m e] 27) = W at *
  have H := Lib.hid h1
  clear h1
  obtain ⟨rr, hr⟩ : ∃ r, winR how s d ax wide apart = r := ⟨_, rfl⟩
  have HR := Lib.hid hr
  clear hr
  have t0 := H.out.cell 0 0 rfl rfl
  have t1 := H.out.cell 0 1 rfl rfl
  have C0 := wdDo_any how ax wide apart (H.out.oldTen HT.out)
  rw [HR.out] at C0
  go_wp2_with fail
  refine C0.mono ?_; rintro e0 w0 ⟨⟨u, rfl, hu⟩, hb⟩
  obtain ⟨Sx, nx, cx, Dx, mx, dx, rfl, _, _, _, _, _, h5⟩ := H.out.addTen hb hu
  have h6 := h5.allocBox w0.heap.size 27 [.slice Sx nx cx, .slice Dx mx dx] rfl
  clear C0 hu hb h5 t0 t1
  go_upto_region 2 with fail
  generalize w0.alloc (.cells #[.slice Sx nx cx, .slice Dx mx dx] 27) = v0 at *
  generalize w0.heap.size = gx at *
  replace H := Lib.hid h6
  clear h6
  have t0 := H.out.cell 3 0 rfl rfl
  have t1 := H.out.cell 3 1 rfl rfl
  have C1 := ref8Window_any how ax wide apart (H.out.oldTen HT.out)
  rw [HR.out] at C1
  go_wp2_with fail
  refine C1.mono ?_; rintro e1 w1 ⟨⟨u, rfl, hu⟩, hb⟩
  obtain ⟨Sy, ny, cy, Dy, my, dy, rfl, _, _, _, _, _, h5⟩ := H.out.addTen hb hu
  have h6 := h5.allocBox w1.heap.size 27 [.slice Sy ny cy, .slice Dy my dy] rfl
  clear C1 hu hb h5 t0 t1
  go_upto_region 3 with fail
  generalize w1.alloc (.cells #[.slice Sy ny cy, .slice Dy my dy] 27) = v1 at *
  generalize w1.heap.size = gy at *
  replace H := Lib.hid h6
  clear h6
  have k1 : (rr.1 == rr.1) = true := by simp
  have x0 := H.out.cell 3 0 rfl rfl
  have x1 := H.out.cell 3 1 rfl rfl
  have y0 := H.out.cell 0 0 rfl rfl
  have y1 := H.out.cell 0 1 rfl rfl
  have C2 := refSame_eq (ten_mk (H.out.ownInts 4 rfl).2.2 (H.out.ownInts 4 rfl).2.1 (H.out.ownInts 5 rfl).2.2 (H.out.ownInts 5 rfl).2.1) (ten_mk (H.out.ownInts 1 rfl).2.2 (H.out.ownInts 1 rfl).2.1 (H.out.ownInts 2 rfl).2.2 (H.out.ownInts 2 rfl).2.1)
  go_wp2_with fail
  refine C2.mono ?_; rintro e2 w2 ⟨rfl, hb⟩
  replace H := Lib.hid (H.out.below hb)
  clear C2 hb x0 x1 y0 y1
  go_wp2
  go_ret
  exact ⟨rfl, H.out.base⟩
theorem k8_sum : winR 1 [4] [1, 2, 3, 4] 0 2 2 = (0, [2], [3, 7]) := by kernel_rfl
theorem k8_arg : winR 1 [] [1] 0 1 1 = refused 1 := by kernel_rfl
set_option maxRecDepth 100000 in
set_option maxHeartbeats 6400000 in
theorem l8known_any (w : World) :
    Calls Try.prog 11 #[] w fun e w' => e = .returned (.bool true) ∧ Below w.heap.size w w' := by
  have s1 := ((Sep.nil w).lit 3 #[.int .i64 4] [4] 1 w.heap.size rfl rfl rfl).lit 2 #[.int .i64 1, .int .i64 2, .int .i64 3, .int .i64 4] [1, 2, 3, 4] 4 (w.heap.size + 1) (by simp) rfl rfl
  have H := Lib.hid s1
  clear s1
  go_enter Try.func11, Try.ntmps11
  have C0 := wdDo_any 1 0 2 2 (ten_mk (H.out.ownInts 1 rfl).2.2 (Nat.le_refl 1) (H.out.ownInts 0 rfl).2.2 (Nat.le_refl 4))
  rw [k8_sum] at C0
  go_wp2_with fail
  refine C0.mono ?_; rintro e0 w0 ⟨⟨u, rfl, hu⟩, hb⟩
  obtain ⟨Sx, nx, cx, Dx, mx, dx, rfl, hs, hd, _, _, _, h5⟩ := H.out.addTen hb hu
  have h6 := h5.allocBox w0.heap.size 27 [.slice Sx nx cx, .slice Dx mx dx] rfl
  have LDx := Lib.hid hd
  have LSx := Lib.hid hs
  clear C0 hu hb h5 hs hd
  go_upto_region 2 with fail
  generalize w0.alloc (.cells #[.slice Sx nx cx, .slice Dx mx dx] 27) = v1 at *
  generalize w0.heap.size = gx at *
  replace H := Lib.hid h6
  clear h6
  replace H := Lib.hid (H.out.lit 2 #[.int .i64 1] [1] 1 v1.heap.size rfl rfl rfl)
  have C1 := wdDo_any 1 0 1 1 (ten_mk (Ints.nil_ _ none) (Nat.le_refl 0) (H.out.ownInts 0 rfl).2.2 (Nat.le_refl 1))
  rw [k8_arg] at C1
  go_wp2_with fail
  refine C1.mono ?_; rintro e1 w1 ⟨⟨u, rfl, hu⟩, hb⟩
  obtain ⟨Sy, ny, cy, Dy, my, dy, rfl, hs, hd, _, _, _, h5⟩ := H.out.addTen hb hu
  have h6 := h5.allocBox w1.heap.size 27 [.slice Sy ny cy, .slice Dy my dy] rfl
  have LDy := Lib.hid hd
  have LSy := Lib.hid hs
  clear C1 hu hb h5 hs hd
  go_upto_region 3 with fail
  generalize w1.alloc (.cells #[.slice Sy ny cy, .slice Dy my dy] 27) = v2 at *
  generalize w1.heap.size = gy at *
  replace H := Lib.hid h6
  clear h6
  obtain rfl : 2 = mx := LDx.out
  obtain ⟨gbx, cb, hv, hOx⟩ := (H.out.ownS 6 rfl).own (by omega)
  injection hv with hv1 _ hv3
  subst hv1
  subst hv3
  have hcx := hOx.cell (j := 0) rfl
  have hcy := hOx.cell (j := 1) rfl
  have x1 := H.out.cell 4 1 rfl rfl
  clear hOx
  have CC := fun w => wdOut_any 3 4 1 ⟨by omega, by omega⟩ ⟨by omega, by omega⟩ ⟨by omega, by omega⟩ w
  simp only [show winN 3 4 1 = 0 from by decide] at CC
  go_wp2_with fail
  refine (CC _).mono ?_; rintro e9 w9 ⟨rfl, rfl⟩
  clear CC
  go_wp2
  go_ret
  exact ⟨rfl, H.out.base⟩
end Go.Proofs.Ytiigbkjkmfjhcaa
