/- The law functions same, known of stage 6. -/
import Derived.Test.YtgdgpggicgfddaaFoldC
import Derived.Test.YtgdgpggicgfddaaSepB
namespace Go.Proofs.Ytgdgpggicgfddaa
open Go.RowKit

set_option maxRecDepth 100000 in
set_option maxHeartbeats 6400000 in
theorem l6same_any {w : World} {v : Value} {Aa : Option Addr} {na ca : Nat} {s d a : List Int} (how : Int) (h : Ten w v s d) (hA : Ints w Aa na a) (hac : na ≤ ca := by omega) :
    Calls Try.prog 8 #[.int .i64 how, v, .slice Aa na ca] w fun e w' => e = .returned (.bool true) ∧ Below w.heap.size w w' := by
  obtain ⟨A, n, c, B, m, e, rfl, hnc, hme, hI, hJ⟩ := h
  have h1 := (Sep.nil w).allocBox w.heap.size 26 [.slice A n c, .slice B m e] rfl
  have HT := Lib.hid (ten_mk hI hnc hJ hme)
  have HA := Lib.hid hA
  clear hI hJ hA
  go_enter Try.func8, Try.ntmps8
  go_upto_region 1 with fail
  generalize w.alloc (.cells #[.slice A n c, .slice B m e] 26) = W at *
  have H := Lib.hid h1
  clear h1
  obtain ⟨rr, hr⟩ : ∃ r, foldR how s d a = r := ⟨_, rfl⟩
  have HR := Lib.hid hr
  clear hr
  have t0 := H.out.cell 0 0 rfl rfl
  have t1 := H.out.cell 0 1 rfl rfl
  have C0 := fdDo_any (ca := ca) how (H.out.oldTen HT.out) (H.out.oldI HA.out)
  rw [HR.out] at C0
  go_wp2_with fail
  refine C0.mono ?_; rintro e0 w0 ⟨⟨u, rfl, hu⟩, hb⟩
  obtain ⟨Sx, nx, cx, Dx, mx, dx, rfl, _, _, _, _, _, h5⟩ := H.out.addTen hb hu
  have h6 := h5.allocBox w0.heap.size 26 [.slice Sx nx cx, .slice Dx mx dx] rfl
  clear C0 hu hb h5 t0 t1
  go_upto_region 2 with fail
  generalize w0.alloc (.cells #[.slice Sx nx cx, .slice Dx mx dx] 26) = v0 at *
  generalize w0.heap.size = gx at *
  replace H := Lib.hid h6
  clear h6
  have t0 := H.out.cell 3 0 rfl rfl
  have t1 := H.out.cell 3 1 rfl rfl
  have C1 := ref6Fold_any (ca := ca) how (H.out.oldTen HT.out) (H.out.oldI HA.out)
  rw [HR.out] at C1
  go_wp2_with fail
  refine C1.mono ?_; rintro e1 w1 ⟨⟨u, rfl, hu⟩, hb⟩
  obtain ⟨Sy, ny, cy, Dy, my, dy, rfl, _, _, _, _, _, h5⟩ := H.out.addTen hb hu
  have h6 := h5.allocBox w1.heap.size 26 [.slice Sy ny cy, .slice Dy my dy] rfl
  clear C1 hu hb h5 t0 t1
  go_upto_region 3 with fail
  generalize w1.alloc (.cells #[.slice Sy ny cy, .slice Dy my dy] 26) = v1 at *
  generalize w1.heap.size = gy at *
  replace H := Lib.hid h6
  clear h6
  have k1 : (rr.1 == rr.1) = true := by simp
  have k2 : (howOk how == howOk how) = true := by simp
  have k3 : (noneF how == noneF how) = true := by simp
  have x0 := H.out.cell 3 0 rfl rfl
  have x1 := H.out.cell 3 1 rfl rfl
  have y0 := H.out.cell 0 0 rfl rfl
  have y1 := H.out.cell 0 1 rfl rfl
  have C2 := refSame_eq (ten_mk (H.out.ownInts 4 rfl).2.2 (H.out.ownInts 4 rfl).2.1 (H.out.ownInts 5 rfl).2.2 (H.out.ownInts 5 rfl).2.1) (ten_mk (H.out.ownInts 1 rfl).2.2 (H.out.ownInts 1 rfl).2.1 (H.out.ownInts 2 rfl).2.2 (H.out.ownInts 2 rfl).2.1)
  go_wp2_with fail
  refine C2.mono ?_; rintro e2 w2 ⟨rfl, hb⟩
  replace H := Lib.hid (H.out.below hb)
  clear C2 hb x0 x1 y0 y1
  go_wp2_with fail
  refine (fdRight_any how _).mono ?_; rintro e9 w9 ⟨rfl, rfl⟩
  go_wp2_with fail
  refine (ref6How_any how _).mono ?_; rintro e9 w9 ⟨rfl, rfl⟩
  go_wp2_with fail
  refine (fdNone_any how _).mono ?_; rintro e9 w9 ⟨rfl, rfl⟩
  go_wp2_with fail
  refine (ref6None_any how _).mono ?_; rintro e9 w9 ⟨rfl, rfl⟩
  go_wp2
  go_ret
  exact ⟨rfl, H.out.base⟩
theorem rises_one : Rises [0] 1 := by
  intro k x hx
  cases k with
  | zero => simp at hx; subst hx; exact ⟨by omega, by omega, fun z hz => by omega⟩
  | succ k => simp at hx
theorem k6_sum : foldR 1 [3] [1, 2, 3] [0] = (0, [], [6]) := by
  rw [foldR_ok rfl (by decide) rises_one (by decide)]
  kernel_rfl
theorem k6_most : foldR 4 [0] [] [0] = (0, [], [-9223372036854775808]) := by
  rw [foldR_ok rfl (by decide) rises_one (by decide)]
  kernel_rfl
set_option maxRecDepth 100000 in
set_option maxHeartbeats 6400000 in
theorem l6known_any (w : World) : Calls Try.prog 11 #[] w fun e w' => e = .returned (.bool true) ∧ Below w.heap.size w w' := by
  have s1 := ((Sep.nil w).lit 3 #[.int .i64 3] [3] 1 w.heap.size rfl rfl rfl).lit 2 #[.int .i64 1, .int .i64 2, .int .i64 3] [1, 2, 3] 3 (w.heap.size + 1) (by simp) rfl rfl
  have s2 := s1.allocBox (w.heap.size + 1 + 1) 26 [.slice (some ⟨w.heap.size, 0, none⟩) 1 1, .slice (some ⟨w.heap.size + 1, 0, none⟩) 3 3] (by simp)
  go_enter Try.func11, Try.ntmps11
  go_upto_region 2 with fail
  generalize ((w.alloc (.cells #[.int .i64 3] 3)).alloc (.cells #[.int .i64 1, .int .i64 2, .int .i64 3] 2)).alloc (.cells #[.slice (some ⟨w.heap.size, 0, none⟩) 1 1, .slice (some ⟨w.heap.size + 1, 0, none⟩) 3 3] 26) = v0 at *
  have H := Lib.hid s2
  clear s1 s2
  have t0 := H.out.cell 0 0 rfl rfl
  have t1 := H.out.cell 0 1 rfl rfl
  replace H := Lib.hid (H.out.lit 3 #[.int .i64 0] [0] 1 v0.heap.size rfl rfl rfl)
  have C0 := fdDo_any (ca := 1) 1 (ten_mk (H.out.ownInts 3 rfl).2.2 (H.out.ownInts 3 rfl).2.1 (H.out.ownInts 2 rfl).2.2 (H.out.ownInts 2 rfl).2.1) ((H.out.ownInts 0 rfl).2.2)
  rw [k6_sum] at C0
  go_wp2_with fail
  refine C0.mono ?_; rintro e0 w0 ⟨⟨u, rfl, hu⟩, hb⟩
  obtain ⟨Su, nu, cu, Du, mu, du, rfl, hs, hd, _, _, _, h5⟩ := H.out.addTen hb hu
  have h6 := h5.allocBox w0.heap.size 26 [.slice Su nu cu, .slice Du mu du] rfl
  have LDu := Lib.hid hd
  clear C0 hu hb h5 hs hd t0 t1
  go_upto_region 3 with fail
  generalize w0.alloc (.cells #[.slice Su nu cu, .slice Du mu du] 26) = v1 at *
  generalize w0.heap.size = gu at *
  replace H := Lib.hid h6
  clear h6
  replace H := Lib.hid (H.out.sub (l' := [.box gu 26 [.slice Su nu cu, .slice Du mu du], .own 3 (.slice Su nu cu) nu ([]), .own 2 (.slice Du mu du) mu ([6]), .box (w.heap.size + 1 + 1) 26 [.slice (some ⟨w.heap.size, 0, none⟩) 1 1, .slice (some ⟨w.heap.size + 1, 0, none⟩) 3 3], .own 2 (.slice (some ⟨w.heap.size + 1, 0, none⟩) 3 3) 3 [1, 2, 3], .own 3 (.slice (some ⟨w.heap.size, 0, none⟩) 1 1) 1 [3]]) [0, 1, 2, 4, 5, 6] rfl (by decide))
  replace H := Lib.hid ((H.out.lit 3 #[.int .i64 0] [0] 1 v1.heap.size rfl rfl rfl).lit 3 #[.int .i64 0] [0] 1 (v1.heap.size + 1) (by simp) rfl rfl)
  have C1 := fdDo_any (ca := 1) 4 (ten_mk (H.out.ownInts 1 rfl).2.2 (Nat.le_refl 1) (Ints.nil_ _ none) (Nat.le_refl 0)) ((H.out.ownInts 0 rfl).2.2)
  rw [k6_most] at C1
  go_wp2_with fail
  refine C1.mono ?_; rintro e1 w1 ⟨⟨u, rfl, hu⟩, hb⟩
  obtain ⟨Sx, nx, cx, Dx, mx, dx, rfl, hs, hd, _, _, _, h5⟩ := H.out.addTen hb hu
  have h6 := h5.allocBox w1.heap.size 26 [.slice Sx nx cx, .slice Dx mx dx] rfl
  have LDx := Lib.hid hd
  clear C1 hu hb h5 hs hd 
  go_upto_region 4 with fail
  generalize w1.alloc (.cells #[.slice Sx nx cx, .slice Dx mx dx] 26) = v2 at *
  generalize w1.heap.size = gx at *
  replace H := Lib.hid h6
  clear h6
  replace H := Lib.hid (H.out.sub (l' := [.box gx 26 [.slice Sx nx cx, .slice Dx mx dx], .own 3 (.slice Sx nx cx) nx ([]), .own 2 (.slice Dx mx dx) mx ([-9223372036854775808]), .box gu 26 [.slice Su nu cu, .slice Du mu du], .own 3 (.slice Su nu cu) nu ([]), .own 2 (.slice Du mu du) mu ([6]), .box (w.heap.size + 1 + 1) 26 [.slice (some ⟨w.heap.size, 0, none⟩) 1 1, .slice (some ⟨w.heap.size + 1, 0, none⟩) 3 3], .own 2 (.slice (some ⟨w.heap.size + 1, 0, none⟩) 3 3) 3 [1, 2, 3], .own 3 (.slice (some ⟨w.heap.size, 0, none⟩) 1 1) 1 [3]]) [0, 1, 2, 5, 6, 7, 8, 9, 10] rfl (by decide))
  have t0 := H.out.cell 6 0 rfl rfl
  have t1 := H.out.cell 6 1 rfl rfl
  have C2 := fdDo_any (ca := 0) 9 (ten_mk (H.out.ownInts 8 rfl).2.2 (H.out.ownInts 8 rfl).2.1 (H.out.ownInts 7 rfl).2.2 (H.out.ownInts 7 rfl).2.1) (Ints.nil_ _ none)
  rw [foldR_how (how := 9) (s := [3]) (d := [1, 2, 3]) (axes := []) rfl] at C2
  go_wp2_with fail
  refine C2.mono ?_; rintro e2 w2 ⟨⟨u, rfl, hu⟩, hb⟩
  obtain ⟨Sy, ny, cy, Dy, my, dy, rfl, hs, hd, _, _, _, h5⟩ := H.out.addTen hb hu
  have h6 := h5.allocBox w2.heap.size 26 [.slice Sy ny cy, .slice Dy my dy] rfl
  have LDy := Lib.hid hd
  clear C2 hu hb h5 hs hd t0 t1
  go_upto_region 5 with fail
  generalize w2.alloc (.cells #[.slice Sy ny cy, .slice Dy my dy] 26) = v3 at *
  generalize w2.heap.size = gy at *
  replace H := Lib.hid h6
  clear h6
  obtain rfl : 1 = mu := LDu.out
  obtain rfl : 1 = mx := LDx.out
  obtain ⟨gbu, cb, hv, hOu⟩ := (H.out.ownS 8 rfl).own (by omega)
  injection hv with hv1 _ hv3
  subst hv1
  subst hv3
  have hcu := hOu.cell (j := 0) rfl
  have u1 := H.out.cell 6 1 rfl rfl
  obtain ⟨gbx, cb, hv, hOx⟩ := (H.out.ownS 5 rfl).own (by omega)
  injection hv with hv1 _ hv3
  subst hv1
  subst hv3
  have hcx := hOx.cell (j := 0) rfl
  have x1 := H.out.cell 3 1 rfl rfl
  clear hOu hOx
  have CC := fun w => fdNone_any 2 w
  simp only [show noneF 2 = 1 from rfl] at CC
  go_wp2_with fail
  refine (CC _).mono ?_; rintro e9 w9 ⟨rfl, rfl⟩
  clear CC
  have CC := fun w => fdStep_any 3 3 (-1) w
  simp only [show putF 3 3 (-1) = -1 from rfl] at CC
  go_wp2_with fail
  refine (CC _).mono ?_; rintro e9 w9 ⟨rfl, rfl⟩
  clear CC
  have CC := fun w => fdRight_any 4 w
  simp only [show howOk 4 = true from rfl] at CC
  go_wp2_with fail
  refine (CC _).mono ?_; rintro e9 w9 ⟨rfl, rfl⟩
  clear CC
  have CC := fun w => fdRight_any 0 w
  simp only [show howOk 0 = false from rfl] at CC
  go_wp2_with fail
  refine (CC _).mono ?_; rintro e9 w9 ⟨rfl, rfl⟩
  clear CC
  go_wp2
  go_ret
  exact ⟨rfl, H.out.base⟩
end Go.Proofs.Ytgdgpggicgfddaa
