/- The law function known of stage 5. -/
import Derived.Test.YthgpiimagbcmbaaAxJ
import Derived.Test.YthgpiimagbcmbaaRef4B
import Derived.Test.YthgpiimagbcmbaaSepB
namespace Go.Proofs.Ythgpiimagbcmbaa
open Go.RowKit

theorem k5_turn : turnR [2, 3] [1, 2, 3, 4, 5, 6] [1, 0] = (0, [3, 2], [1, 4, 2, 5, 3, 6]) := by
  have hok : TuOk [2, 3] [1, 0] := ⟨rfl, fun i x hx => by
    match i, hx with
    | 0, hx => simp at hx; subst hx; simp
    | 1, hx => simp at hx; subst hx; simp
    | i + 2, hx => simp at hx⟩
  have hr : tenRight [2, 3] [1, 2, 3, 4, 5, 6] = true := by decide
  rw [turnR_ok hr hok]
  decide
def kt5 : List Int × List Int := ([2, 3], [1, 2, 3, 4, 5, 6])
theorem k5_right : ∀ n, allRight (List.replicate n kt5) := fun n t ht => by rw [List.eq_of_mem_replicate ht]; decide
theorem k5_join : ∃ d, joinR 0 [kt5, kt5] = (0, [4, 3], d) ∧ d.length = 12 := by
  have h1 : allRight [kt5, kt5] := k5_right 2
  have h2 : axOk 0 [kt5, kt5] := ⟨kt5, rfl, by decide, by decide⟩
  have h3 : JoinOk (0 : Int).toNat [kt5, kt5] := ⟨fun t ht => by
    have e : t = kt5 := by simpa using ht
    subst e
    exact ⟨rfl, fun k x y _ hx hy => by
      have hx' : kt5.1[k]? = some x := hx
      have hy' : kt5.1[k]? = some y := hy
      rw [hx'] at hy'; injection hy'⟩, by decide⟩
  exact ⟨_, (joinR_ok h1 h2 h3).trans rfl, by rw [joinUp_length]; decide⟩
theorem k5_bad : joinR 2 [kt5] = refused 1 := joinR_arg (k5_right 1) (fun h => by
  obtain ⟨t, ht, _, h2⟩ := h
  simp at ht
  subst ht
  revert h2
  decide)

set_option maxRecDepth 100000 in
set_option maxHeartbeats 3200000 in
theorem l5known_any (w : World) : Calls Try.prog 11 #[] w fun e w' => e = .returned (.bool true) ∧ Below w.heap.size w w' := by
  have s1 := ((Sep.nil w).lit 3 #[.int .i64 2, .int .i64 3] [2, 3] 2 w.heap.size rfl rfl rfl).lit 2 #[.int .i64 1, .int .i64 2, .int .i64 3, .int .i64 4, .int .i64 5, .int .i64 6] [1, 2, 3, 4, 5, 6] 6 (w.heap.size + 1) (by simp) rfl rfl
  have s2 := s1.allocBox (w.heap.size + 1 + 1) 25 [.slice (some ⟨w.heap.size, 0, none⟩) 2 2, .slice (some ⟨w.heap.size + 1, 0, none⟩) 6 6] (by simp)
  go_enter Try.func11, Try.ntmps11
  go_upto_region 2 with fail
  generalize ((w.alloc (.cells #[.int .i64 2, .int .i64 3] 3)).alloc (.cells #[.int .i64 1, .int .i64 2, .int .i64 3, .int .i64 4, .int .i64 5, .int .i64 6] 2)).alloc (.cells #[.slice (some ⟨w.heap.size, 0, none⟩) 2 2, .slice (some ⟨w.heap.size + 1, 0, none⟩) 6 6] 25) = v0 at *
  have H := Lib.hid s2
  clear s1 s2
  have t0 := H.out.cell 0 0 rfl rfl
  have t1 := H.out.cell 0 1 rfl rfl
  replace H := Lib.hid (H.out.lit 3 #[.int .i64 1, .int .i64 0] [1, 0] 2 v0.heap.size rfl rfl rfl)
  go_wp2_with fail
  have C0 := axTurn_any (ca := 2) (ten_mk (H.out.ownInts 3 rfl).2.2 (H.out.ownInts 3 rfl).2.1 (H.out.ownInts 2 rfl).2.2 (H.out.ownInts 2 rfl).2.1) ((H.out.ownInts 0 rfl).2.2)
  rw [k5_turn] at C0
  refine C0.mono ?_; rintro e0 w0 ⟨⟨u, rfl, hu⟩, hb⟩
  obtain ⟨Su, nu, cu, Du, mu, du, rfl, hs, hd, _, _, _, h5⟩ := H.out.addTen hb hu
  have h6 := h5.allocBox w0.heap.size 25 [.slice Su nu cu, .slice Du mu du] rfl
  have LDu := Lib.hid hd
  clear C0 hu hb h5 hs hd t0 t1
  go_upto_region 3 with fail
  generalize w0.alloc (.cells #[.slice Su nu cu, .slice Du mu du] 25) = v1 at *
  generalize w0.heap.size = gu at *
  replace H := Lib.hid h6
  clear h6
  replace H := Lib.hid (H.out.sub (l' := [.box gu 25 [.slice Su nu cu, .slice Du mu du], .own 3 (.slice Su nu cu) nu ([3, 2]), .own 2 (.slice Du mu du) mu ([1, 4, 2, 5, 3, 6]), .box (w.heap.size + 1 + 1) 25 [.slice (some ⟨w.heap.size, 0, none⟩) 2 2, .slice (some ⟨w.heap.size + 1, 0, none⟩) 6 6], .own 2 (.slice (some ⟨w.heap.size + 1, 0, none⟩) 6 6) 6 [1, 2, 3, 4, 5, 6], .own 3 (.slice (some ⟨w.heap.size, 0, none⟩) 2 2) 2 [2, 3]]) [0, 1, 2, 4, 5, 6] rfl (by decide))
  obtain ⟨dj, hj, hjl⟩ := k5_join
  have HJ := Lib.hid hj
  have HJL := Lib.hid hjl
  clear hj hjl
  have t0 := H.out.cell 3 0 rfl rfl
  have t1 := H.out.cell 3 1 rfl rfl
  replace H := Lib.hid (H.out.allocBox v1.heap.size 25 [.slice (some ⟨w.heap.size, 0, none⟩) 2 2, .slice (some ⟨w.heap.size + 1, 0, none⟩) 6 6, .slice (some ⟨w.heap.size, 0, none⟩) 2 2, .slice (some ⟨w.heap.size + 1, 0, none⟩) 6 6] rfl)
  go_wp2_with fail
  have C1 := axJoin_any (c := 2) 0 (tens_two (H.out.heap 0 rfl) (ten_mk (H.out.ownInts 6 rfl).2.2 (H.out.ownInts 6 rfl).2.1 (H.out.ownInts 5 rfl).2.2 (H.out.ownInts 5 rfl).2.1) (ten_mk (H.out.ownInts 6 rfl).2.2 (H.out.ownInts 6 rfl).2.1 (H.out.ownInts 5 rfl).2.2 (H.out.ownInts 5 rfl).2.1)) (by omega)
  rw [show joinR 0 [([2, 3], [1, 2, 3, 4, 5, 6]), ([2, 3], [1, 2, 3, 4, 5, 6])] = (0, [4, 3], dj) from HJ.out] at C1
  refine C1.mono ?_; rintro e1 w1 ⟨⟨u, rfl, hu⟩, hb⟩
  obtain ⟨Sw, nw, cw, Dw, mw, dw, rfl, hs, hd, _, _, _, h5⟩ := H.out.addTen hb hu
  have h6 := h5.allocBox w1.heap.size 25 [.slice Sw nw cw, .slice Dw mw dw] rfl
  have LDw := Lib.hid hd
  clear C1 hu hb h5 hs hd t0 t1
  go_upto_region 4 with fail
  generalize w1.alloc (.cells #[.slice Sw nw cw, .slice Dw mw dw] 25) = v2 at *
  generalize w1.heap.size = gw at *
  replace H := Lib.hid h6
  clear h6
  replace H := Lib.hid (H.out.sub (l' := [.box gw 25 [.slice Sw nw cw, .slice Dw mw dw], .own 3 (.slice Sw nw cw) nw ([4, 3]), .own 2 (.slice Dw mw dw) mw (dj), .box gu 25 [.slice Su nu cu, .slice Du mu du], .own 3 (.slice Su nu cu) nu ([3, 2]), .own 2 (.slice Du mu du) mu ([1, 4, 2, 5, 3, 6]), .box (w.heap.size + 1 + 1) 25 [.slice (some ⟨w.heap.size, 0, none⟩) 2 2, .slice (some ⟨w.heap.size + 1, 0, none⟩) 6 6], .own 2 (.slice (some ⟨w.heap.size + 1, 0, none⟩) 6 6) 6 [1, 2, 3, 4, 5, 6], .own 3 (.slice (some ⟨w.heap.size, 0, none⟩) 2 2) 2 [2, 3]]) [0, 1, 2, 4, 5, 6, 7, 8, 9] rfl (by decide))
  have t0 := H.out.cell 6 0 rfl rfl
  have t1 := H.out.cell 6 1 rfl rfl
  replace H := Lib.hid (H.out.allocBox v2.heap.size 25 [.slice (some ⟨w.heap.size, 0, none⟩) 2 2, .slice (some ⟨w.heap.size + 1, 0, none⟩) 6 6] rfl)
  go_wp2_with fail
  have C2 := axJoin_any (c := 1) 2 (tens_one (H.out.heap 0 rfl) (ten_mk (H.out.ownInts 9 rfl).2.2 (H.out.ownInts 9 rfl).2.1 (H.out.ownInts 8 rfl).2.2 (H.out.ownInts 8 rfl).2.1)) (by omega)
  rw [show joinR 2 [([2, 3], [1, 2, 3, 4, 5, 6])] = refused 1 from k5_bad] at C2
  refine C2.mono ?_; rintro e2 w2 ⟨⟨u, rfl, hu⟩, hb⟩
  obtain ⟨Sz, nz, cz, Dz, mz, dz, rfl, hs, hd, _, _, _, h5⟩ := H.out.addTen hb hu
  have h6 := h5.allocBox w2.heap.size 25 [.slice Sz nz cz, .slice Dz mz dz] rfl
  have LDz := Lib.hid hd
  clear C2 hu hb h5 hs hd t0 t1
  go_upto_region 5 with fail
  generalize w2.alloc (.cells #[.slice Sz nz cz, .slice Dz mz dz] 25) = v3 at *
  generalize w2.heap.size = gz at *
  replace H := Lib.hid h6
  clear h6
  obtain rfl : 6 = mu := LDu.out
  obtain rfl : 12 = mw := HJL.out.symm.trans LDw.out
  obtain ⟨gb, cb, hv, hO⟩ := (H.out.ownS 9 rfl).own (by omega)
  injection hv with hv1 _ hv3
  subst hv1
  subst hv3
  have hc1 := hO.cell (j := 1) (x := 4) rfl
  have u1 := H.out.cell 7 1 rfl rfl
  have x1 := H.out.cell 4 1 rfl rfl
  clear hO
  go_wp2
  go_ret
  exact ⟨rfl, H.out.base⟩
end Go.Proofs.Ythgpiimagbcmbaa
