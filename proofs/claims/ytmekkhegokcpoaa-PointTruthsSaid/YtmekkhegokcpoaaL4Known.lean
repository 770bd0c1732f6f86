/- The law function known of stage 4. -/
import Derived.Test.YtmekkhegokcpoaaPointC
import Derived.Test.YtmekkhegokcpoaaBox
namespace Go.Proofs.Ytmekkhegokcpoaa
open Go.RowKit

set_option maxRecDepth 100000 in
set_option maxHeartbeats 6400000 in
theorem l4known_any (w : World) :
    Calls Try.prog 11 #[] w fun e w' => e = .returned (.bool true) ∧ Below w.heap.size w w' := by
  have j1 := ints_lit w 3 w.heap.size 1 #[.int .i64 2] [2] (by rfl) (by rfl) (by decide)
  have j2 := ints_lit (w.alloc (.cells #[.int .i64 2] 3)) 2 (w.heap.size + 1) 2 #[.int .i64 1, .int .i64 (-2)] [1, -2] (by simp) (by rfl) (by decide)
  have q1 := (Below.refl w.heap.size w).alloc (Nat.le_refl _) (.cells #[.int .i64 2] 3)
  have q2 := q1.alloc (by simp) (.cells #[.int .i64 1, .int .i64 (-2)] 2)
  have b0 : Bx w ((w.alloc (.cells #[.int .i64 2] 3)).alloc (.cells #[.int .i64 1, .int .i64 (-2)] 2)) none [] := ⟨q2, (fun _ h => by cases h), (fun _ h => by cases h)⟩
  have x1 := b0.push (ten_mk (j1.alloc (.cells #[.int .i64 1, .int .i64 (-2)] 2)) (Nat.le_refl 1) j2 (Nat.le_refl 2)).tx
  rw [size_alloc, size_alloc] at x1
  have HBX := Lib.hid x1
  clear j1 j2 q1 q2 b0 x1
  have HE1 := Lib.hid (show twoR 8 [2] [1, -2] [2] [1, -2] = (0, [2], [1, 4]) by decide +kernel)
  have HE2 := Lib.hid (show twoR 6 [2] [1, -2] [] [1] = (13, [], []) by decide +kernel)
  have HE3 := Lib.hid (show oneR 6 [2] [1, -2] = (1, [], []) by decide +kernel)
  go_enter Try.func11, Try.ntmps11
  go_upto_region 2 with fail
  generalize ((w.alloc (.cells #[.int .i64 2] 3)).alloc (.cells #[.int .i64 1, .int .i64 (-2)] 2)).alloc (.cells #[.slice (some ⟨w.heap.size, 0, none⟩) 1 1, .slice (some ⟨w.heap.size + 1, 0, none⟩) 2 2] 27) = v at *
  obtain ⟨Sa, sna, sca, Da, dna, dca, pa0, pa1, ta⟩ := HBX.out.get (g := (w.heap.size + 1 + 1)) (s := [2]) (d := [1, -2]) (List.mem_cons_self)
  have C0 := pTwo_any 8 ta ta
  rw [HE1.out] at C0
  have Ta := Lib.hid ta
  clear ta
  go_wp2_with fail
  refine C0.mono ?_; rintro e0 w0 ⟨⟨u, rfl, hu⟩, hb⟩
  obtain ⟨S, sn, sc, D, dn, dc, rfl, h1, h2, h3, h4, h5, h6⟩ := hu.tx HBX.out.lt
  replace HBX := Lib.hid ((HBX.out.below hb).push ⟨S, sn, sc, D, dn, dc, rfl, h1, h2, h3, h4, h5, h6⟩)
  clear C0 hb hu h1 h2 h3 h4 h5 h6 Ta
  clear pa0 pa1
  go_upto_region 3 with fail
  generalize w0.alloc (.cells #[.slice S sn sc, .slice D dn dc] 27) = v0 at *
  generalize w0.heap.size = gt at *
  skip
  have l1 := (Below.refl v0.heap.size v0).alloc (Nat.le_refl _) (.cells #[.int .i64 1] 2)
  have l2 := ints_lit v0 2 v0.heap.size 1 #[.int .i64 1] [1] (by rfl) (by rfl) (by decide)
  have HTO := Lib.hid (ten_mk (Ints.nil_ (v0.alloc (.cells #[.int .i64 1] 2)) none) (Nat.le_refl 0) l2 (Nat.le_refl 1))
  obtain ⟨Sa, sna, sca, Da, dna, dca, pa0, pa1, ta⟩ := HBX.out.get (g := (w.heap.size + 1 + 1)) (s := [2]) (d := [1, -2]) (List.mem_cons_of_mem _ (List.mem_cons_self))
  replace HBX := Lib.hid (HBX.out.below l1)
  have ta := ta.below l1
  clear l1 l2
  have C1 := pTwo_any 6 ta HTO.out
  rw [HE2.out] at C1
  clear ta
  go_wp2_with fail
  refine C1.mono ?_; rintro e1 w1 ⟨⟨u, rfl, hu⟩, hb⟩
  obtain ⟨S, sn, sc, D, dn, dc, rfl, h1, h2, h3, h4, h5, h6⟩ := hu.tx HBX.out.lt
  replace HBX := Lib.hid ((HBX.out.below hb).push ⟨S, sn, sc, D, dn, dc, rfl, h1, h2, h3, h4, h5, h6⟩)
  clear C1 hb hu h1 h2 h3 h4 h5 h6 pa0 pa1 HTO
  go_upto_region 4 with fail
  generalize w1.alloc (.cells #[.slice S sn sc, .slice D dn dc] 27) = v1 at *
  generalize w1.heap.size = gu at *
  obtain ⟨Sa, sna, sca, Da, dna, dca, pa0, pa1, ta⟩ := HBX.out.get (g := (w.heap.size + 1 + 1)) (s := [2]) (d := [1, -2]) (List.mem_cons_of_mem _ (List.mem_cons_of_mem _ (List.mem_cons_self)))
  have C2 := pOne_any 6 ta
  rw [HE3.out] at C2
  have Ta := Lib.hid ta
  clear ta
  go_wp2_with fail
  refine C2.mono ?_; rintro e2 w2 ⟨⟨u, rfl, hu⟩, hb⟩
  obtain ⟨S, sn, sc, D, dn, dc, rfl, h1, h2, h3, h4, h5, h6⟩ := hu.tx HBX.out.lt
  replace HBX := Lib.hid ((HBX.out.below hb).push ⟨S, sn, sc, D, dn, dc, rfl, h1, h2, h3, h4, h5, h6⟩)
  clear C2 hb hu h1 h2 h3 h4 h5 h6 Ta
  clear pa0 pa1
  go_upto_region 5 with fail
  generalize w2.alloc (.cells #[.slice S sn sc, .slice D dn dc] 27) = v2 at *
  generalize w2.heap.size = gv at *
  skip
  obtain ⟨St, snt, sct, Dt, dnt, dct, pt0, pt1, tt⟩ := HBX.out.get (g := gt) (s := [2]) (d := [1, 4]) (List.mem_cons_of_mem _ (List.mem_cons_of_mem _ (List.mem_cons_self)))
  obtain ⟨_, i2⟩ := ten_ints tt
  have hdn := i2.len
  obtain rfl : dnt = 2 := by simpa using hdn.symm
  obtain ⟨ad, y, rfl, _, hy, hcy, _⟩ := i2.at_ (k := 1) (by omega)
  obtain rfl : y = 4 := by simpa using hy.symm
  have hcz : v2.cell? ⟨ad.block, ad.off + 1, none⟩ = some (.int .i64 4) := hcy
  clear tt hdn hy i2 hcy
  have C3 := pStep_any 11 (-1) 0 v2
  rw [show stepF 11 (-1) 0 = 1 by decide +kernel] at C3
  go_wp2_with fail
  refine C3.mono ?_; rintro e3 w3 ⟨rfl, rfl⟩
  clear C3
  have C4 := pStep_any 4 (-9223372036854775808) 0 v2
  rw [show stepF 4 (-9223372036854775808) 0 = -9223372036854775808 by decide +kernel] at C4
  go_wp2_with fail
  refine C4.mono ?_; rintro e4 w4 ⟨rfl, rfl⟩
  clear C4
  go_wp2
  go_ret
  exact ⟨rfl, HBX.out.base⟩
end Go.Proofs.Ytmekkhegokcpoaa
