/- The law functions equal, same of stage 5. -/
import Derived.Test.YthgpiimagbcmbaaAxJ
import Derived.Test.YthgpiimagbcmbaaRef5B
import Derived.Test.YthgpiimagbcmbaaRef5C
import Derived.Test.YthgpiimagbcmbaaRef5D
import Derived.Test.YthgpiimagbcmbaaRef5E
namespace Go.Proofs.Ythgpiimagbcmbaa
open Go.RowKit

set_option maxHeartbeats 1600000 in
theorem l5equal_eq {w : World} {v u : Value} {s d : List Int} (k : Int) (h : Ten w v s d) (g : Ten w u s d) :
    Calls Try.prog 23 #[v, .int .i64 k, u, .int .i64 k] w fun e w' => e = .returned (.bool true) ∧ Below w.heap.size w w' := by
  obtain ⟨A, n, c, B, m, e, rfl, hnc, hme, hI, hJ⟩ := h
  obtain ⟨A', n', c', B', m', e', rfl, hnc', hme', hI', hJ'⟩ := g
  have h1 := ((Sep.nil w).allocBox w.heap.size 25 [.slice A n c, .slice B m e] rfl).allocBox (w.heap.size + 1) 25 [.slice A' n' c', .slice B' m' e'] (by simp)
  go_enter Try.func23, Try.ntmps23
  go_upto_region 1 with fail
  generalize (w.alloc (.cells #[.slice A n c, .slice B m e] 25)).alloc (.cells #[.slice A' n' c', .slice B' m' e'] 25) = W at *
  have HT := Lib.hid (h1.oldTen (ten_mk hI hnc hJ hme))
  have HT' := Lib.hid (h1.oldTen (ten_mk hI' hnc' hJ' hme'))
  have a0 := h1.cell 1 0 rfl rfl
  have a1 := h1.cell 1 1 rfl rfl
  have b0 := h1.cell 0 0 rfl rfl
  have b1 := h1.cell 0 1 rfl rfl
  have H := Lib.hid h1
  have kk : (k == k) = true := by simp
  clear h1 hI hJ hI' hJ'
  go_wp2_with fail
  refine (refSame_eq HT.out HT'.out).mono ?_; rintro e2 w2 ⟨rfl, hb⟩
  go_wp2
  go_ret
  exact ⟨rfl, (H.out.below hb).base⟩
set_option maxRecDepth 100000 in
set_option maxHeartbeats 6400000 in
theorem l5same_any {w : World} {v : Value} {Aa Ab Al : Option Addr} {na ca nb cb nl cl : Nat} {s d a b : List Int} {l : TL} (x0 ax : Int) (h : Ten w v s d) (hA : Ints w Aa na a) (hB : Ints w Ab nb b) (hL : Tens w Al nl l) (hx : Fits x0) (hnl : nl ≤ cl) :
    Calls Try.prog 10 #[v, .slice Aa na ca, .slice Ab nb cb, .int .i64 x0, .int .i64 ax, .slice Al nl cl] w fun e w' => e = .returned (.bool true) ∧ Below w.heap.size w w' := by
  obtain ⟨A, n, c, B, m, e, rfl, hnc, hme, hI, hJ⟩ := h
  have h1 := (Sep.nil w).allocBox w.heap.size 25 [.slice A n c, .slice B m e] rfl
  have HT := Lib.hid (ten_mk hI hnc hJ hme)
  have HA := Lib.hid hA
  have HB := Lib.hid hB
  have HL := Lib.hid hL
  have HX := Lib.hid hx
  clear hI hJ hA hB hL hx
  go_enter Try.func10, Try.ntmps10
  go_upto_region 1 with fail
  generalize w.alloc (.cells #[.slice A n c, .slice B m e] 25) = W at *
  have H := Lib.hid h1
  clear h1
  obtain ⟨r1, hr1⟩ : ∃ r, turnR s d a = r := ⟨_, rfl⟩
  have Hr1 := Lib.hid hr1
  clear hr1
  obtain ⟨r2, hr2⟩ : ∃ r, spR s d b a = r := ⟨_, rfl⟩
  have Hr2 := Lib.hid hr2
  clear hr2
  obtain ⟨r3, hr3⟩ : ∃ r, cutR s d a b = r := ⟨_, rfl⟩
  have Hr3 := Lib.hid hr3
  clear hr3
  obtain ⟨r4, hr4⟩ : ∃ r, padR s d a b x0 = r := ⟨_, rfl⟩
  have Hr4 := Lib.hid hr4
  clear hr4
  obtain ⟨r5, hr5⟩ : ∃ r, joinR ax l = r := ⟨_, rfl⟩
  have Hr5 := Lib.hid hr5
  clear hr5
  have t0 := H.out.cell 0 0 rfl rfl
  have t1 := H.out.cell 0 1 rfl rfl
  have C0 := axTurn_any (ca := ca) (H.out.oldTen HT.out) (H.out.oldI HA.out)
  rw [Hr1.out] at C0
  go_wp2_with fail
  refine C0.mono ?_; rintro e0 w0 ⟨⟨u, rfl, hu⟩, hb⟩
  obtain ⟨Sx, nx, cx, Dx, mx, dx, rfl, _, _, _, _, _, h5⟩ := H.out.addTen hb hu
  have h6 := h5.allocBox w0.heap.size 25 [.slice Sx nx cx, .slice Dx mx dx] rfl
  clear C0 hu hb h5 t0 t1
  go_upto_region 2 with fail
  generalize w0.alloc (.cells #[.slice Sx nx cx, .slice Dx mx dx] 25) = v0 at *
  generalize w0.heap.size = gx at *
  replace H := Lib.hid h6
  clear h6
  have t0 := H.out.cell 3 0 rfl rfl
  have t1 := H.out.cell 3 1 rfl rfl
  have C1 := ref4Turn_any (ca := ca) (H.out.oldTen HT.out) (H.out.oldI HA.out)
  rw [Hr1.out] at C1
  go_wp2_with fail
  refine C1.mono ?_; rintro e1 w1 ⟨⟨u, rfl, hu⟩, hb⟩
  obtain ⟨Sy, ny, cy, Dy, my, dy, rfl, _, _, _, _, _, h5⟩ := H.out.addTen hb hu
  have h6 := h5.allocBox w1.heap.size 25 [.slice Sy ny cy, .slice Dy my dy] rfl
  clear C1 hu hb h5 t0 t1
  go_upto_region 3 with fail
  generalize w1.alloc (.cells #[.slice Sy ny cy, .slice Dy my dy] 25) = v1 at *
  generalize w1.heap.size = gy at *
  replace H := Lib.hid h6
  clear h6
  have x0 := H.out.cell 3 0 rfl rfl
  have x1 := H.out.cell 3 1 rfl rfl
  have y0 := H.out.cell 0 0 rfl rfl
  have y1 := H.out.cell 0 1 rfl rfl
  have C2 := l5equal_eq r1.1 (ten_mk (H.out.ownInts 4 rfl).2.2 (H.out.ownInts 4 rfl).2.1 (H.out.ownInts 5 rfl).2.2 (H.out.ownInts 5 rfl).2.1) (ten_mk (H.out.ownInts 1 rfl).2.2 (H.out.ownInts 1 rfl).2.1 (H.out.ownInts 2 rfl).2.2 (H.out.ownInts 2 rfl).2.1)
  go_wp2_with fail
  refine C2.mono ?_; rintro e2 w2 ⟨rfl, hb⟩
  replace H := Lib.hid (H.out.below hb)
  clear C2 hb x0 x1 y0 y1
  replace H := Lib.hid (H.out.sub (l' := [.box gy 25 [.slice Sy ny cy, .slice Dy my dy], .own 3 (.slice Sy ny cy) ny (r1.2.1), .own 2 (.slice Dy my dy) my (r1.2.2), .box gx 25 [.slice Sx nx cx, .slice Dx mx dx], .box w.heap.size 25 [.slice A n c, .slice B m e]]) [0, 1, 2, 3, 6] rfl (by decide))
  have t0 := H.out.cell 4 0 rfl rfl
  have t1 := H.out.cell 4 1 rfl rfl
  have C3 := axSpread_any (co := cb) (ca := ca) (H.out.oldTen HT.out) (H.out.oldI HB.out) (H.out.oldI HA.out)
  rw [Hr2.out] at C3
  go_wp2_with fail
  refine C3.mono ?_; rintro e3 w3 ⟨⟨u, rfl, hu⟩, hb⟩
  obtain ⟨Sx3, nx3, cx3, Dx3, mx3, dx3, rfl, _, _, _, _, _, h5⟩ := H.out.addTen hb hu
  clear C3 hu hb t0 t1
  have z0 := h5.cell 5 0 rfl rfl
  have z1 := h5.cell 5 1 rfl rfl
  have f0 := h5.frozenBox 5 0 rfl
  have f1 := h5.frozenBox 5 1 rfl
  have h6 := (h5.setBox 5 0 (.slice Sx3 nx3 cx3) rfl).setBox 5 1 (.slice Dx3 mx3 dx3) rfl
  clear h5
  go_upto_region 6 with fail
  generalize (w3.setCell ⟨gx, 0, none⟩ (.slice Sx3 nx3 cx3)).setCell ⟨gx, 1, none⟩ (.slice Dx3 mx3 dx3) = v3 at *
  clear z0 z1 f0 f1
  replace H := Lib.hid h6
  clear h6
  replace H := Lib.hid (H.out.sub (l' := [.own 3 (.slice Sx3 nx3 cx3) nx3 (r2.2.1), .own 2 (.slice Dx3 mx3 dx3) mx3 (r2.2.2), .box gy 25 [.slice Sy ny cy, .slice Dy my dy], .box gx 25 [.slice Sx3 nx3 cx3, .slice Dx3 mx3 dx3], .box w.heap.size 25 [.slice A n c, .slice B m e]]) [0, 1, 2, 5, 6] rfl (by decide))
  have t0 := H.out.cell 4 0 rfl rfl
  have t1 := H.out.cell 4 1 rfl rfl
  have C4 := ref4Spread_any (co := cb) (ca := ca) (H.out.oldTen HT.out) (H.out.oldI HB.out) (H.out.oldI HA.out)
  rw [Hr2.out] at C4
  go_wp2_with fail
  refine C4.mono ?_; rintro e4 w4 ⟨⟨u, rfl, hu⟩, hb⟩
  obtain ⟨Sy4, ny4, cy4, Dy4, my4, dy4, rfl, _, _, _, _, _, h5⟩ := H.out.addTen hb hu
  clear C4 hu hb t0 t1
  have z0 := h5.cell 4 0 rfl rfl
  have z1 := h5.cell 4 1 rfl rfl
  have f0 := h5.frozenBox 4 0 rfl
  have f1 := h5.frozenBox 4 1 rfl
  have h6 := (h5.setBox 4 0 (.slice Sy4 ny4 cy4) rfl).setBox 4 1 (.slice Dy4 my4 dy4) rfl
  clear h5
  go_upto_region 7 with fail
  generalize (w4.setCell ⟨gy, 0, none⟩ (.slice Sy4 ny4 cy4)).setCell ⟨gy, 1, none⟩ (.slice Dy4 my4 dy4) = v4 at *
  clear z0 z1 f0 f1
  replace H := Lib.hid h6
  clear h6
  have x0 := H.out.cell 5 0 rfl rfl
  have x1 := H.out.cell 5 1 rfl rfl
  have y0 := H.out.cell 4 0 rfl rfl
  have y1 := H.out.cell 4 1 rfl rfl
  have C5 := l5equal_eq r2.1 (ten_mk (H.out.ownInts 2 rfl).2.2 (H.out.ownInts 2 rfl).2.1 (H.out.ownInts 3 rfl).2.2 (H.out.ownInts 3 rfl).2.1) (ten_mk (H.out.ownInts 0 rfl).2.2 (H.out.ownInts 0 rfl).2.1 (H.out.ownInts 1 rfl).2.2 (H.out.ownInts 1 rfl).2.1)
  go_wp2_with fail
  refine C5.mono ?_; rintro e5 w5 ⟨rfl, hb⟩
  replace H := Lib.hid (H.out.below hb)
  clear C5 hb x0 x1 y0 y1
  replace H := Lib.hid (H.out.sub (l' := [.own 3 (.slice Sy4 ny4 cy4) ny4 (r2.2.1), .own 2 (.slice Dy4 my4 dy4) my4 (r2.2.2), .box gy 25 [.slice Sy4 ny4 cy4, .slice Dy4 my4 dy4], .box gx 25 [.slice Sx3 nx3 cx3, .slice Dx3 mx3 dx3], .box w.heap.size 25 [.slice A n c, .slice B m e]]) [0, 1, 4, 5, 6] rfl (by decide))
  have t0 := H.out.cell 4 0 rfl rfl
  have t1 := H.out.cell 4 1 rfl rfl
  have C6 := axSlice_any (cf := ca) (cz := cb) (H.out.oldTen HT.out) (H.out.oldI HA.out) (H.out.oldI HB.out)
  rw [Hr3.out] at C6
  go_wp2_with fail
  refine C6.mono ?_; rintro e6 w6 ⟨⟨u, rfl, hu⟩, hb⟩
  obtain ⟨Sx6, nx6, cx6, Dx6, mx6, dx6, rfl, _, _, _, _, _, h5⟩ := H.out.addTen hb hu
  clear C6 hu hb t0 t1
  have z0 := h5.cell 5 0 rfl rfl
  have z1 := h5.cell 5 1 rfl rfl
  have f0 := h5.frozenBox 5 0 rfl
  have f1 := h5.frozenBox 5 1 rfl
  have h6 := (h5.setBox 5 0 (.slice Sx6 nx6 cx6) rfl).setBox 5 1 (.slice Dx6 mx6 dx6) rfl
  clear h5
  go_upto_region 10 with fail
  generalize (w6.setCell ⟨gx, 0, none⟩ (.slice Sx6 nx6 cx6)).setCell ⟨gx, 1, none⟩ (.slice Dx6 mx6 dx6) = v6 at *
  clear z0 z1 f0 f1
  replace H := Lib.hid h6
  clear h6
  replace H := Lib.hid (H.out.sub (l' := [.own 3 (.slice Sx6 nx6 cx6) nx6 (r3.2.1), .own 2 (.slice Dx6 mx6 dx6) mx6 (r3.2.2), .box gy 25 [.slice Sy4 ny4 cy4, .slice Dy4 my4 dy4], .box gx 25 [.slice Sx6 nx6 cx6, .slice Dx6 mx6 dx6], .box w.heap.size 25 [.slice A n c, .slice B m e]]) [0, 1, 4, 5, 6] rfl (by decide))
  have t0 := H.out.cell 4 0 rfl rfl
  have t1 := H.out.cell 4 1 rfl rfl
  have C7 := ref4Slice_any (cf := ca) (cz := cb) (H.out.oldTen HT.out) (H.out.oldI HA.out) (H.out.oldI HB.out)
  rw [Hr3.out] at C7
  go_wp2_with fail
  refine C7.mono ?_; rintro e7 w7 ⟨⟨u, rfl, hu⟩, hb⟩
  obtain ⟨Sy7, ny7, cy7, Dy7, my7, dy7, rfl, _, _, _, _, _, h5⟩ := H.out.addTen hb hu
  clear C7 hu hb t0 t1
  have z0 := h5.cell 4 0 rfl rfl
  have z1 := h5.cell 4 1 rfl rfl
  have f0 := h5.frozenBox 4 0 rfl
  have f1 := h5.frozenBox 4 1 rfl
  have h6 := (h5.setBox 4 0 (.slice Sy7 ny7 cy7) rfl).setBox 4 1 (.slice Dy7 my7 dy7) rfl
  clear h5
  go_upto_region 11 with fail
  generalize (w7.setCell ⟨gy, 0, none⟩ (.slice Sy7 ny7 cy7)).setCell ⟨gy, 1, none⟩ (.slice Dy7 my7 dy7) = v7 at *
  clear z0 z1 f0 f1
  replace H := Lib.hid h6
  clear h6
  have x0 := H.out.cell 5 0 rfl rfl
  have x1 := H.out.cell 5 1 rfl rfl
  have y0 := H.out.cell 4 0 rfl rfl
  have y1 := H.out.cell 4 1 rfl rfl
  have C8 := l5equal_eq r3.1 (ten_mk (H.out.ownInts 2 rfl).2.2 (H.out.ownInts 2 rfl).2.1 (H.out.ownInts 3 rfl).2.2 (H.out.ownInts 3 rfl).2.1) (ten_mk (H.out.ownInts 0 rfl).2.2 (H.out.ownInts 0 rfl).2.1 (H.out.ownInts 1 rfl).2.2 (H.out.ownInts 1 rfl).2.1)
  go_wp2_with fail
  refine C8.mono ?_; rintro e8 w8 ⟨rfl, hb⟩
  replace H := Lib.hid (H.out.below hb)
  clear C8 hb x0 x1 y0 y1
  replace H := Lib.hid (H.out.sub (l' := [.own 3 (.slice Sy7 ny7 cy7) ny7 (r3.2.1), .own 2 (.slice Dy7 my7 dy7) my7 (r3.2.2), .box gy 25 [.slice Sy7 ny7 cy7, .slice Dy7 my7 dy7], .box gx 25 [.slice Sx6 nx6 cx6, .slice Dx6 mx6 dx6], .box w.heap.size 25 [.slice A n c, .slice B m e]]) [0, 1, 4, 5, 6] rfl (by decide))
  have t0 := H.out.cell 4 0 rfl rfl
  have t1 := H.out.cell 4 1 rfl rfl
  have C9 := axPad_any (cl := ca) (ch := cb) x0 (H.out.oldTen HT.out) (H.out.oldI HA.out) (H.out.oldI HB.out) HX.out
  rw [Hr4.out] at C9
  go_wp2_with fail
  refine C9.mono ?_; rintro e9 w9 ⟨⟨u, rfl, hu⟩, hb⟩
  obtain ⟨Sx9, nx9, cx9, Dx9, mx9, dx9, rfl, _, _, _, _, _, h5⟩ := H.out.addTen hb hu
  clear C9 hu hb t0 t1
  have z0 := h5.cell 5 0 rfl rfl
  have z1 := h5.cell 5 1 rfl rfl
  have f0 := h5.frozenBox 5 0 rfl
  have f1 := h5.frozenBox 5 1 rfl
  have h6 := (h5.setBox 5 0 (.slice Sx9 nx9 cx9) rfl).setBox 5 1 (.slice Dx9 mx9 dx9) rfl
  clear h5
  go_upto_region 14 with fail
  generalize (w9.setCell ⟨gx, 0, none⟩ (.slice Sx9 nx9 cx9)).setCell ⟨gx, 1, none⟩ (.slice Dx9 mx9 dx9) = v9 at *
  clear z0 z1 f0 f1
  replace H := Lib.hid h6
  clear h6
  replace H := Lib.hid (H.out.sub (l' := [.own 3 (.slice Sx9 nx9 cx9) nx9 (r4.2.1), .own 2 (.slice Dx9 mx9 dx9) mx9 (r4.2.2), .box gy 25 [.slice Sy7 ny7 cy7, .slice Dy7 my7 dy7], .box gx 25 [.slice Sx9 nx9 cx9, .slice Dx9 mx9 dx9], .box w.heap.size 25 [.slice A n c, .slice B m e]]) [0, 1, 4, 5, 6] rfl (by decide))
  have t0 := H.out.cell 4 0 rfl rfl
  have t1 := H.out.cell 4 1 rfl rfl
  have C10 := ref4Pad_any (cl := ca) (ch := cb) x0 (H.out.oldTen HT.out) (H.out.oldI HA.out) (H.out.oldI HB.out) HX.out
  rw [Hr4.out] at C10
  go_wp2_with fail
  refine C10.mono ?_; rintro e10 w10 ⟨⟨u, rfl, hu⟩, hb⟩
  obtain ⟨Sy10, ny10, cy10, Dy10, my10, dy10, rfl, _, _, _, _, _, h5⟩ := H.out.addTen hb hu
  clear C10 hu hb t0 t1
  have z0 := h5.cell 4 0 rfl rfl
  have z1 := h5.cell 4 1 rfl rfl
  have f0 := h5.frozenBox 4 0 rfl
  have f1 := h5.frozenBox 4 1 rfl
  have h6 := (h5.setBox 4 0 (.slice Sy10 ny10 cy10) rfl).setBox 4 1 (.slice Dy10 my10 dy10) rfl
  clear h5
  go_upto_region 15 with fail
  generalize (w10.setCell ⟨gy, 0, none⟩ (.slice Sy10 ny10 cy10)).setCell ⟨gy, 1, none⟩ (.slice Dy10 my10 dy10) = v10 at *
  clear z0 z1 f0 f1
  replace H := Lib.hid h6
  clear h6
  have x0 := H.out.cell 5 0 rfl rfl
  have x1 := H.out.cell 5 1 rfl rfl
  have y0 := H.out.cell 4 0 rfl rfl
  have y1 := H.out.cell 4 1 rfl rfl
  have C11 := l5equal_eq r4.1 (ten_mk (H.out.ownInts 2 rfl).2.2 (H.out.ownInts 2 rfl).2.1 (H.out.ownInts 3 rfl).2.2 (H.out.ownInts 3 rfl).2.1) (ten_mk (H.out.ownInts 0 rfl).2.2 (H.out.ownInts 0 rfl).2.1 (H.out.ownInts 1 rfl).2.2 (H.out.ownInts 1 rfl).2.1)
  go_wp2_with fail
  refine C11.mono ?_; rintro e11 w11 ⟨rfl, hb⟩
  replace H := Lib.hid (H.out.below hb)
  clear C11 hb x0 x1 y0 y1
  replace H := Lib.hid (H.out.sub (l' := [.own 3 (.slice Sy10 ny10 cy10) ny10 (r4.2.1), .own 2 (.slice Dy10 my10 dy10) my10 (r4.2.2), .box gy 25 [.slice Sy10 ny10 cy10, .slice Dy10 my10 dy10], .box gx 25 [.slice Sx9 nx9 cx9, .slice Dx9 mx9 dx9], .box w.heap.size 25 [.slice A n c, .slice B m e]]) [0, 1, 4, 5, 6] rfl (by decide))
  have C12 := axJoin_any (c := cl) ax (HL.out.below H.out.base) hnl
  rw [Hr5.out] at C12
  go_wp2_with fail
  refine C12.mono ?_; rintro e12 w12 ⟨⟨u, rfl, hu⟩, hb⟩
  obtain ⟨Sx12, nx12, cx12, Dx12, mx12, dx12, rfl, _, _, _, _, _, h5⟩ := H.out.addTen hb hu
  clear C12 hu hb 
  have z0 := h5.cell 5 0 rfl rfl
  have z1 := h5.cell 5 1 rfl rfl
  have f0 := h5.frozenBox 5 0 rfl
  have f1 := h5.frozenBox 5 1 rfl
  have h6 := (h5.setBox 5 0 (.slice Sx12 nx12 cx12) rfl).setBox 5 1 (.slice Dx12 mx12 dx12) rfl
  clear h5
  go_upto_region 18 with fail
  generalize (w12.setCell ⟨gx, 0, none⟩ (.slice Sx12 nx12 cx12)).setCell ⟨gx, 1, none⟩ (.slice Dx12 mx12 dx12) = v12 at *
  clear z0 z1 f0 f1
  replace H := Lib.hid h6
  clear h6
  replace H := Lib.hid (H.out.sub (l' := [.own 3 (.slice Sx12 nx12 cx12) nx12 (r5.2.1), .own 2 (.slice Dx12 mx12 dx12) mx12 (r5.2.2), .box gy 25 [.slice Sy10 ny10 cy10, .slice Dy10 my10 dy10], .box gx 25 [.slice Sx12 nx12 cx12, .slice Dx12 mx12 dx12], .box w.heap.size 25 [.slice A n c, .slice B m e]]) [0, 1, 4, 5, 6] rfl (by decide))
  have C13 := ref4Join_any (c := cl) ax (HL.out.below H.out.base)
  rw [Hr5.out] at C13
  go_wp2_with fail
  refine C13.mono ?_; rintro e13 w13 ⟨⟨u, rfl, hu⟩, hb⟩
  obtain ⟨Sy13, ny13, cy13, Dy13, my13, dy13, rfl, _, _, _, _, _, h5⟩ := H.out.addTen hb hu
  clear C13 hu hb 
  have z0 := h5.cell 4 0 rfl rfl
  have z1 := h5.cell 4 1 rfl rfl
  have f0 := h5.frozenBox 4 0 rfl
  have f1 := h5.frozenBox 4 1 rfl
  have h6 := (h5.setBox 4 0 (.slice Sy13 ny13 cy13) rfl).setBox 4 1 (.slice Dy13 my13 dy13) rfl
  clear h5
  go_upto_region 19 with fail
  generalize (w13.setCell ⟨gy, 0, none⟩ (.slice Sy13 ny13 cy13)).setCell ⟨gy, 1, none⟩ (.slice Dy13 my13 dy13) = v13 at *
  clear z0 z1 f0 f1
  replace H := Lib.hid h6
  clear h6
  have x0 := H.out.cell 5 0 rfl rfl
  have x1 := H.out.cell 5 1 rfl rfl
  have y0 := H.out.cell 4 0 rfl rfl
  have y1 := H.out.cell 4 1 rfl rfl
  have C14 := l5equal_eq r5.1 (ten_mk (H.out.ownInts 2 rfl).2.2 (H.out.ownInts 2 rfl).2.1 (H.out.ownInts 3 rfl).2.2 (H.out.ownInts 3 rfl).2.1) (ten_mk (H.out.ownInts 0 rfl).2.2 (H.out.ownInts 0 rfl).2.1 (H.out.ownInts 1 rfl).2.2 (H.out.ownInts 1 rfl).2.1)
  go_wp2_with fail
  refine C14.mono ?_; rintro e14 w14 ⟨rfl, hb⟩
  replace H := Lib.hid (H.out.below hb)
  clear C14 hb x0 x1 y0 y1
  go_wp2
  go_ret
  exact ⟨rfl, H.out.base⟩
end Go.Proofs.Ythgpiimagbcmbaa
