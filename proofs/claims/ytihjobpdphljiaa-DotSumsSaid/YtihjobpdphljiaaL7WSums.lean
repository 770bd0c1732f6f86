/- The walk of the law DotSums. -/
import Derived.Test.YtihjobpdphljiaaL7Same
import Derived.Test.YtihjobpdphljiaaDtB
import Derived.Test.YtihjobpdphljiaaRef5C
import Derived.Test.YtihjobpdphljiaaRef4B
import Derived.Test.YtihjobpdphljiaaSepC
import Derived.Test.YtihjobpdphljiaaKitReg
import Derived.Test.YtihjobpdphljiaaBox
namespace Go.Proofs.Ytihjobpdphljiaa
open Go.RowKit

set_option maxRecDepth 100000 in
set_option maxHeartbeats 12800000 in
theorem dsums_walk {w : World} {A0 : Option Addr} {n0 c0 : Nat} {x0 : List Int} (nn mm kk : Int) (h0 : Ints w A0 n0 x0) :
    Calls Try.prog 5 #[.slice A0 n0 c0, .int .i64 nn, .int .i64 mm, .int .i64 kk] w fun e w' => e = .returned (.bool true) ∧ Below w.heap.size w w' := by
  have q0 := Below.refl w.heap.size w
  have hT := tape_new (c := c0) (h0.below q0)
  have hz1 : (w).heap.size = w.heap.size := by simp
  skip
  have s1 := Sep.startTape hz1 hT
  clear hT
  go_enter Try.func5, Try.ntmps5
  go_upto_region 2 with fail
  generalize (w).alloc (.cells #[.slice A0 n0 c0, .int .i64 0] 33) = v at *
  have HQ := Lib.hid q0
  have HZ1 := Lib.hid hz1
  have H := Lib.hid s1
  skip
  clear s1 hz1 q0 h0
  go_cut [10, 11, 12] (fun q1 q2 q3 wx => ∃ x m y : Nat, q1 = .int .i64 (x : Int) ∧ q2 = .int .i64 (m : Int) ∧ q3 = .int .i64 (y : Int) ∧ (1 ≤ x ∧ x ≤ 4) ∧ (1 ≤ m ∧ m ≤ 4) ∧ (1 ≤ y ∧ y ≤ 4) ∧ v = wx)
  case first =>
    have e0 := and3 nn
    have q0a := Int.emod_nonneg nn (b := 4) (by omega)
    have q0b := Int.emod_lt_of_pos nn (b := 4) (by omega)
    have e1 := and3 mm
    have q1a := Int.emod_nonneg mm (b := 4) (by omega)
    have q1b := Int.emod_lt_of_pos mm (b := 4) (by omega)
    have e2 := and3 kk
    have q2a := Int.emod_nonneg kk (b := 4) (by omega)
    have q2b := Int.emod_lt_of_pos kk (b := 4) (by omega)
    go_wp2_with fail
    go_meet
    exact ⟨(1 + nn % 4).toNat, (1 + mm % 4).toNat, (1 + kk % 4).toNat, by rw [Int.toNat_of_nonneg (by omega)], by rw [Int.toNat_of_nonneg (by omega)], by rw [Int.toNat_of_nonneg (by omega)], by omega, by omega, by omega, rfl⟩
  case rest =>
    obtain ⟨x, m, y, rfl, rfl, rfl, hx, hm, hy, rfl⟩ := hcut
    replace H := Lib.hid (H.out.lit 3 #[.int .i64 (x : Int), .int .i64 (m : Int)] [(x : Int), (m : Int)] 2 v.heap.size rfl rfl (by simp [litOk]; omega))
    have C0 := tapeTensor_any (c := 2) (H.out.tape 1 rfl) ((H.out.ownInts 0 rfl).2.2) (by omega)
    go_wp2_with fail
    refine C0.mono ?_; rintro e0 w0 ⟨⟨v3, da, rfl, hOT, hdl⟩, hR⟩
    obtain ⟨vs, vd, na, ma, rfl, ho1, ho2⟩ := hOT
    obtain ⟨Sa, ka, rfl, _, _, _⟩ := ho1.form
    obtain ⟨Da, ja, rfl, _, _, _⟩ := ho2.form
    have La := Lib.hid (show da.length = x * m by rw [hdl, sizeN2 (by omega) (by omega), Int.toNat_natCast])
    have Fa := Lib.hid ho2.2.1
    replace H := Lib.hid (H.out.readOwn2 1 rfl hR ho1 ho2 (Ne.symm ty_ne.1))
    clear C0 ho1 ho2 hR hdl
    replace H := Lib.hid (H.out.lit 3 #[.int .i64 (m : Int), .int .i64 (y : Int)] [(m : Int), (y : Int)] 2 w0.heap.size rfl rfl (by simp [litOk]; omega))
    have C1 := tapeTensor_any (c := 2) (H.out.tape 4 rfl) ((H.out.ownInts 0 rfl).2.2) (by omega)
    go_wp2_with fail
    refine C1.mono ?_; rintro e1 w1 ⟨⟨v3, db, rfl, hOT, hdl⟩, hR⟩
    obtain ⟨vs, vd, nb, mb, rfl, ho1, ho2⟩ := hOT
    obtain ⟨Sb, kb, rfl, _, _, _⟩ := ho1.form
    obtain ⟨Db, jb, rfl, _, _, _⟩ := ho2.form
    have Lb := Lib.hid (show db.length = m * y by rw [hdl, sizeN2 (by omega) (by omega), Int.toNat_natCast])
    have Fb := Lib.hid ho2.2.1
    replace H := Lib.hid (H.out.readOwn2 4 rfl hR ho1 ho2 (Ne.symm ty_ne.1))
    clear C1 ho1 ho2 hR hdl
    replace H := Lib.hid (H.out.lit 3 #[.int .i64 (m : Int), .int .i64 (y : Int)] [(m : Int), (y : Int)] 2 w1.heap.size rfl rfl (by simp [litOk]; omega))
    have C2 := tapeTensor_any (c := 2) (H.out.tape 7 rfl) ((H.out.ownInts 0 rfl).2.2) (by omega)
    go_wp2_with fail
    refine C2.mono ?_; rintro e2 w2 ⟨⟨v3, dc, rfl, hOT, hdl⟩, hR⟩
    obtain ⟨vs, vd, nc, mc, rfl, ho1, ho2⟩ := hOT
    obtain ⟨Sc, kc, rfl, _, _, _⟩ := ho1.form
    obtain ⟨Dc, jc, rfl, _, _, _⟩ := ho2.form
    have Lc := Lib.hid (show dc.length = m * y by rw [hdl, sizeN2 (by omega) (by omega), Int.toNat_natCast])
    have Fc := Lib.hid ho2.2.1
    replace H := Lib.hid (H.out.readOwn2 7 rfl hR ho1 ho2 (Ne.symm ty_ne.1))
    clear C2 ho1 ho2 hR hdl
    replace H := Lib.hid (H.out.allocBox (w2.heap.size) 26 [.slice Sa na ka, .slice Da ma ja] (by simp))
    replace H := Lib.hid (H.out.allocBox (w2.heap.size + 1) 26 [.slice Sb nb kb, .slice Db mb jb] (by simp))
    replace H := Lib.hid (H.out.allocBox (w2.heap.size + 1 + 1) 26 [.slice Sc nc kc, .slice Dc mc jc] (by simp))
    go_upto_region 4 with fail
    generalize (((w2).alloc (.cells #[.slice Sa na ka, .slice Da ma ja] 26)).alloc (.cells #[.slice Sb nb kb, .slice Db mb jb] 26)).alloc (.cells #[.slice Sc nc kc, .slice Dc mc jc] 26) = vA at *
    generalize w2.heap.size = g0 at *
    have Rt := Lib.hid (fun (p q : Nat) (d : List Int) (hp : p ≤ 4) (hq : q ≤ 4) (hl : d.length = p * q) => show tenRight [(p : Int), (q : Int)] d = true by simp only [tenRight, rightN2 hp hq, Bool.true_and, decide_eq_true_eq, sizeN2 hp hq]; omega)
    have Ra := Lib.hid (Rt.out x m da (by omega) (by omega) La.out)
    have Rb := Lib.hid (Rt.out m y db (by omega) (by omega) Lb.out)
    have Rc := Lib.hid (Rt.out m y dc (by omega) (by omega) Lc.out)
    have HOK := Lib.hid (dotOk_two (x := x) (m := m) (y := y) (by omega) (by omega) (by omega))
    have L1 := Lib.hid (show (dotD [(x : Int), (m : Int)] da [(m : Int), (y : Int)] db 0).length = x * y by rw [dotD_length, dotS_two, sizeN2 (by omega) (by omega), Int.toNat_natCast])
    have L2 := Lib.hid (show (dotD [(x : Int), (m : Int)] da [(m : Int), (y : Int)] dc 0).length = x * y by rw [dotD_length, dotS_two, sizeN2 (by omega) (by omega), Int.toNat_natCast])
    have E1 := Lib.hid (show twoR 6 [(m : Int), (y : Int)] db [(m : Int), (y : Int)] dc = (0, [(m : Int), (y : Int)], List.zipWith (stepF 6) db dc) from twoR_ok ⟨by omega, by omega⟩ (by rw [Rb.out, Rc.out]; simp))
    have E2 := Lib.hid (show dotR [(x : Int), (m : Int)] da [(m : Int), (y : Int)] db 0 = (0, [(x : Int), (y : Int)], dotD [(x : Int), (m : Int)] da [(m : Int), (y : Int)] db 0) from dotR_ok (n := 0) (by rw [Ra.out, Rb.out]; rfl) HOK.out)
    have E3 := Lib.hid (show dotR [(x : Int), (m : Int)] da [(m : Int), (y : Int)] dc 0 = (0, [(x : Int), (y : Int)], dotD [(x : Int), (m : Int)] da [(m : Int), (y : Int)] dc 0) from dotR_ok (n := 0) (by rw [Ra.out, Rc.out]; rfl) HOK.out)
    have LS := Lib.hid (show (List.zipWith (stepF 6) db dc).length = m * y by rw [List.length_zipWith, Lb.out, Lc.out]; exact Nat.min_self _)
    have RS := Lib.hid (Rt.out m y _ (by omega) (by omega) LS.out)
    have E4 := Lib.hid (show dotR [(x : Int), (m : Int)] da [(m : Int), (y : Int)] (List.zipWith (stepF 6) db dc) 0 = (0, [(x : Int), (y : Int)], List.zipWith (stepF 6) (dotD [(x : Int), (m : Int)] da [(m : Int), (y : Int)] db 0) (dotD [(x : Int), (m : Int)] da [(m : Int), (y : Int)] dc 0)) by rw [← dot_add (by rw [Lb.out, Lc.out])]; exact dotR_ok (n := 0) (by rw [Ra.out, RS.out]; rfl) HOK.out)
    have E9 := Lib.hid (dot_turn (x := x) (m := m) (y := y) (d := da) (k := db) (by omega) (by omega) (by omega))
    have RP := Lib.hid (Rt.out x y (dotD [(x : Int), (m : Int)] da [(m : Int), (y : Int)] db 0) (by omega) (by omega) L1.out)
    have RQ := Lib.hid (Rt.out x y (dotD [(x : Int), (m : Int)] da [(m : Int), (y : Int)] dc 0) (by omega) (by omega) L2.out)
    have E5 := Lib.hid (show twoR 6 [(x : Int), (y : Int)] (dotD [(x : Int), (m : Int)] da [(m : Int), (y : Int)] db 0) [(x : Int), (y : Int)] (dotD [(x : Int), (m : Int)] da [(m : Int), (y : Int)] dc 0) = (0, [(x : Int), (y : Int)], List.zipWith (stepF 6) (dotD [(x : Int), (m : Int)] da [(m : Int), (y : Int)] db 0) (dotD [(x : Int), (m : Int)] da [(m : Int), (y : Int)] dc 0)) from twoR_ok ⟨by omega, by omega⟩ (by rw [RP.out, RQ.out]; simp))
    have E6 := Lib.hid (show dotR [(x : Int), (m : Int)] da [(m : Int), (m : Int)] (unitD m m) 0 = (0, [(x : Int), (m : Int)], da) by have := dotR_ok (n := 0) (d := da) (k := unitD m m) (by rw [Ra.out, Rt.out m m (unitD m m) (by omega) (by omega) (unitD_length m m)]; rfl) (dotOk_two (x := x) (m := m) (y := m) (by omega) (by omega) (by omega)); rw [dot_unit (by omega) (by omega) La.out Fa.out] at this; exact this)
    have Ta := Lib.hid (show turnR [(x : Int), (m : Int)] da [1, 0] = (0, [(m : Int), (x : Int)], turnD [(x : Int), (m : Int)] da [1, 0]) from turnR_ok Ra.out (tuOk_two _ _))
    have Tb := Lib.hid (show turnR [(m : Int), (y : Int)] db [1, 0] = (0, [(y : Int), (m : Int)], turnD [(m : Int), (y : Int)] db [1, 0]) from turnR_ok Rb.out (tuOk_two _ _))
    have TP := Lib.hid (show turnR [(x : Int), (y : Int)] (dotD [(x : Int), (m : Int)] da [(m : Int), (y : Int)] db 0) [1, 0] = (0, [(y : Int), (x : Int)], turnD [(x : Int), (y : Int)] (dotD [(x : Int), (m : Int)] da [(m : Int), (y : Int)] db 0) [1, 0]) from turnR_ok RP.out (tuOk_two _ _))
    have LTa := Lib.hid (show (turnD [(x : Int), (m : Int)] da [1, 0]).length = m * x by rw [turnD, gen_length, turnS_two, sizeN2 (by omega) (by omega), Int.toNat_natCast])
    have LTb := Lib.hid (show (turnD [(m : Int), (y : Int)] db [1, 0]).length = y * m by rw [turnD, gen_length, turnS_two, sizeN2 (by omega) (by omega), Int.toNat_natCast])
    have E7 := Lib.hid (show dotR [(y : Int), (m : Int)] (turnD [(m : Int), (y : Int)] db [1, 0]) [(m : Int), (x : Int)] (turnD [(x : Int), (m : Int)] da [1, 0]) 0 = (0, [(y : Int), (x : Int)], turnD [(x : Int), (y : Int)] (dotD [(x : Int), (m : Int)] da [(m : Int), (y : Int)] db 0) [1, 0]) by rw [← E9.out]; exact dotR_ok (n := 0) (by rw [Rt.out y m _ (by omega) (by omega) LTb.out, Rt.out m x _ (by omega) (by omega) LTa.out]; rfl) (dotOk_two (by omega) (by omega) (by omega)))
    clear E9 Rt LS RS RP RQ LTa LTb HOK
    have b0 := H.out.cell 1 0 rfl rfl
    have b1 := H.out.cell 1 1 rfl rfl
    have c0 := H.out.cell 0 0 rfl rfl
    have c1 := H.out.cell 0 1 rfl rfl
    have C3 := ref4Two_any 6 (ten_mk (H.out.ownInts 6 rfl).2.2 (H.out.ownInts 6 rfl).2.1 (H.out.ownInts 7 rfl).2.2 (H.out.ownInts 7 rfl).2.1) (ten_mk (H.out.ownInts 3 rfl).2.2 (H.out.ownInts 3 rfl).2.1 (H.out.ownInts 4 rfl).2.2 (H.out.ownInts 4 rfl).2.1)
    rw [E1.out] at C3
    go_wp2_with fail
    refine C3.mono ?_; rintro e3 w3 ⟨⟨u, rfl, hu⟩, hb⟩
    obtain ⟨Ss, ns, cs, Ds, ms, ds_, rfl, _, hd, _, _, _, h5⟩ := H.out.addTen hb hu
    have Ms := Lib.hid hd
    have h6 := h5.allocBox w3.heap.size 26 [.slice Ss ns cs, .slice Ds ms ds_] rfl
    clear C3 hu hb h5 hd b0 b1 c0 c1
    go_upto_region 5 with fail
    generalize w3.alloc (.cells #[.slice Ss ns cs, .slice Ds ms ds_] 26) = vs at *
    generalize w3.heap.size = gs at *
    replace H := Lib.hid h6
    clear h6
    have a0 := H.out.cell 5 0 rfl rfl
    have a1 := H.out.cell 5 1 rfl rfl
    have b0 := H.out.cell 4 0 rfl rfl
    have b1 := H.out.cell 4 1 rfl rfl
    have C4 := dtDo_any 0 (ten_mk (H.out.ownInts 12 rfl).2.2 (H.out.ownInts 12 rfl).2.1 (H.out.ownInts 13 rfl).2.2 (H.out.ownInts 13 rfl).2.1) (ten_mk (H.out.ownInts 9 rfl).2.2 (H.out.ownInts 9 rfl).2.1 (H.out.ownInts 10 rfl).2.2 (H.out.ownInts 10 rfl).2.1)
    rw [E2.out] at C4
    go_wp2_with fail
    refine C4.mono ?_; rintro e4 w4 ⟨⟨u, rfl, hu⟩, hb⟩
    obtain ⟨Sp, np, cp, Dp, mp, dp_, rfl, _, hd, _, _, _, h5⟩ := H.out.addTen hb hu
    have Mp := Lib.hid hd
    have h6 := h5.allocBox w4.heap.size 26 [.slice Sp np cp, .slice Dp mp dp_] rfl
    clear C4 hu hb h5 hd a0 a1 b0 b1
    go_upto_region 6 with fail
    generalize w4.alloc (.cells #[.slice Sp np cp, .slice Dp mp dp_] 26) = vp at *
    generalize w4.heap.size = gp at *
    replace H := Lib.hid h6
    clear h6
    have a0 := H.out.cell 8 0 rfl rfl
    have a1 := H.out.cell 8 1 rfl rfl
    have c0 := H.out.cell 6 0 rfl rfl
    have c1 := H.out.cell 6 1 rfl rfl
    have C5 := dtDo_any 0 (ten_mk (H.out.ownInts 15 rfl).2.2 (H.out.ownInts 15 rfl).2.1 (H.out.ownInts 16 rfl).2.2 (H.out.ownInts 16 rfl).2.1) (ten_mk (H.out.ownInts 9 rfl).2.2 (H.out.ownInts 9 rfl).2.1 (H.out.ownInts 10 rfl).2.2 (H.out.ownInts 10 rfl).2.1)
    rw [E3.out] at C5
    go_wp2_with fail
    refine C5.mono ?_; rintro e5 w5 ⟨⟨u, rfl, hu⟩, hb⟩
    obtain ⟨Sq, nq, cq, Dq, mq, dq_, rfl, _, hd, _, _, _, h5⟩ := H.out.addTen hb hu
    have Mq := Lib.hid hd
    have h6 := h5.allocBox w5.heap.size 26 [.slice Sq nq cq, .slice Dq mq dq_] rfl
    clear C5 hu hb h5 hd a0 a1 c0 c1
    go_upto_region 7 with fail
    generalize w5.alloc (.cells #[.slice Sq nq cq, .slice Dq mq dq_] 26) = vq at *
    generalize w5.heap.size = gq at *
    replace H := Lib.hid h6
    clear h6
    obtain ⟨N, hN⟩ : ∃ N, x * y = N := ⟨_, rfl⟩
    have hxy : x * y ≤ 4 * 4 := Nat.mul_le_mul hx.2 hy.2
    have hw1 : IntKind.i64.wrap ((x : Int) * (y : Int)) = (N : Int) := by rw [← Int.natCast_mul, hN]; exact IntWalk.i64_in _ ⟨by omega, by omega⟩
    obtain rfl : N = mp := by rw [← hN]; exact L1.out.symm.trans Mp.out
    obtain rfl : N = mq := by rw [← hN]; exact L2.out.symm.trans Mq.out
    have HN := Lib.hid hN
    have dN : ((N : Int) != (N : Int)) = false := by simp
    clear hN
    have p0 := H.out.cell 3 0 rfl rfl
    have p1 := H.out.cell 3 1 rfl rfl
    have q0 := H.out.cell 0 0 rfl rfl
    have q1 := H.out.cell 0 1 rfl rfl
    have CT := refTensor_any (ten_mk (H.out.ownInts 4 rfl).2.2 (H.out.ownInts 4 rfl).2.1 (H.out.ownInts 5 rfl).2.2 (H.out.ownInts 5 rfl).2.1)
    go_wp2_with fail
    refine CT.mono ?_; rw [show tenRight [(x : Int), (y : Int)] (dotD [(x : Int), (m : Int)] da [(m : Int), (y : Int)] db 0) = true from by simp only [tenRight, rightN2 (show x ≤ 4 by omega) (show y ≤ 4 by omega), Bool.true_and, decide_eq_true_eq, sizeN2 (show x ≤ 4 by omega) (show y ≤ 4 by omega)]; have := L1.out; omega]; rintro e7 w7 ⟨rfl, hb⟩
    replace H := Lib.hid (H.out.below hb)
    clear CT hb p0 p1 q0 q1
    have p0 := H.out.cell 3 0 rfl rfl
    have p1 := H.out.cell 3 1 rfl rfl
    have q0 := H.out.cell 0 0 rfl rfl
    have q1 := H.out.cell 0 1 rfl rfl
    have CI := refInts_any (c := cp) (d := cq) (H.out.ownInts 4 rfl).2.2 (H.out.ownInts 1 rfl).2.2
    go_wp2_with fail
    refine CI.mono ?_; rw [show ([(x : Int), (y : Int)] == [(x : Int), (y : Int)]) = true by simp]; rintro e8 w8 ⟨rfl, q8, rfl⟩
    replace H := Lib.hid (H.out.drewN q8)
    clear CI p0 p1 q0 q1
    generalize w7.drewN q8 = w8 at *
    have p0 := H.out.cell 3 0 rfl rfl
    have p1 := H.out.cell 3 1 rfl rfl
    have q0 := H.out.cell 0 0 rfl rfl
    have q1 := H.out.cell 0 1 rfl rfl
    have C6 := ref4Two_any 6 (ten_mk (H.out.ownInts 4 rfl).2.2 (H.out.ownInts 4 rfl).2.1 (H.out.ownInts 5 rfl).2.2 (H.out.ownInts 5 rfl).2.1) (ten_mk (H.out.ownInts 1 rfl).2.2 (H.out.ownInts 1 rfl).2.1 (H.out.ownInts 2 rfl).2.2 (H.out.ownInts 2 rfl).2.1)
    rw [E5.out] at C6
    go_wp2_with fail
    refine C6.mono ?_; rintro e6 w6 ⟨⟨u, rfl, hu⟩, hb⟩
    obtain ⟨So, no, co, Do, mo, do_, rfl, _, hd, _, _, _, h5⟩ := H.out.addTen hb hu
    have Mo := Lib.hid hd
    have h6 := h5.allocBox w6.heap.size 26 [.slice So no co, .slice Do mo do_] rfl
    clear C6 hu hb h5 hd p0 p1 q0 q1
    go_upto_region 10 with fail
    generalize w6.alloc (.cells #[.slice So no co, .slice Do mo do_] 26) = vo at *
    generalize w6.heap.size = go at *
    replace H := Lib.hid h6
    clear h6
    have a0 := H.out.cell 14 0 rfl rfl
    have a1 := H.out.cell 14 1 rfl rfl
    have s0 := H.out.cell 9 0 rfl rfl
    have s1 := H.out.cell 9 1 rfl rfl
    have C7 := dtDo_any 0 (ten_mk (H.out.ownInts 21 rfl).2.2 (H.out.ownInts 21 rfl).2.1 (H.out.ownInts 22 rfl).2.2 (H.out.ownInts 22 rfl).2.1) (ten_mk (H.out.ownInts 10 rfl).2.2 (H.out.ownInts 10 rfl).2.1 (H.out.ownInts 11 rfl).2.2 (H.out.ownInts 11 rfl).2.1)
    rw [E4.out] at C7
    go_wp2_with fail
    refine C7.mono ?_; rintro e7 w7 ⟨⟨u, rfl, hu⟩, hb⟩
    obtain ⟨Sr, nr, cr, Dr, mr, dr_, rfl, _, hd, _, _, _, h5⟩ := H.out.addTen hb hu
    have Mr := Lib.hid hd
    have h6 := h5.allocBox w7.heap.size 26 [.slice Sr nr cr, .slice Dr mr dr_] rfl
    clear C7 hu hb h5 hd a0 a1 s0 s1
    go_upto_region 11 with fail
    generalize w7.alloc (.cells #[.slice Sr nr cr, .slice Dr mr dr_] 26) = vr at *
    generalize w7.heap.size = gr at *
    replace H := Lib.hid h6
    clear h6
    replace H := Lib.hid (H.out.lit 3 #[.int .i64 (m : Int), .int .i64 (m : Int)] [(m : Int), (m : Int)] 2 vr.heap.size rfl rfl (by simp [litOk]; omega))
    go_wp2_with fail
    refine (refFill_any 0 ((H.out.ownInts 0 rfl).2.2) (by omega) ⟨by omega, by omega⟩).mono ?_; rintro e9 w9 ⟨⟨u, rfl, hu⟩, hb⟩
    obtain ⟨Su, nu, cu, Du, mu, du_, rfl, _, hd, _, _, _, h5⟩ := H.out.addTen hb hu
    rw [sizeN2 (show m ≤ 4 by omega) (show m ≤ 4 by omega), Int.toNat_natCast, ← unitD_zero] at h5 hd
    obtain rfl : m * m = mu := by rw [← hd, unitD_length]
    obtain ⟨M2, hM2⟩ : ∃ M2, m * m = M2 := ⟨_, rfl⟩
    rw [hM2] at h5
    have HM2 := Lib.hid hM2
    clear hM2 hd
    have h6 := h5.allocBox w9.heap.size 26 [.slice Su nu cu, .slice Du M2 du_] rfl
    clear hu hb h5
    rw [HM2.out]
    go_upto_region 12 with fail
    generalize w9.alloc (.cells #[.slice Su nu cu, .slice Du M2 du_] 26) = vu at *
    generalize w9.heap.size = gu at *
    replace H := Lib.hid h6
    clear h6
    obtain ⟨rest, hrest, hS⟩ : ∃ rest, rest = _ ∧ Sep w vu (.box gu 26 [.slice Su nu cu, .slice Du M2 du_] :: .own 3 (.slice Su nu cu) nu [(m : Int), (m : Int)] :: .own 2 (.slice Du M2 du_) M2 (unitD m 0) :: rest) := ⟨_, rfl, H.out⟩
    have HREST := Lib.hid hrest
    replace H := Lib.hid hS
    clear hS hrest
    have hm4 : m * m ≤ 4 * 4 := Nat.mul_le_mul hm.2 hm.2
    have hM16 : M2 ≤ 16 := by have := HM2.out; omega
    clear hm4
    go_wp2_with fail
    go_loopw [27] (fun tv wr => ∃ K0 : Nat, tv = .int .i64 K0 ∧ K0 ≤ m ∧ Sep w wr (.box gu 26 [.slice Su nu cu, .slice Du M2 du_] :: .own 3 (.slice Su nu cu) nu [(m : Int), (m : Int)] :: .own 2 (.slice Du M2 du_) M2 (unitD m K0) :: rest)) (fun tv _ => m - (intOf tv).toNat)
    case atStart => exact ⟨0, rfl, by omega, H.out⟩
    case round =>
      clear H
      obtain ⟨K0, rfl, hK0, hS⟩ := hrel
      have H := Lib.hid hS
      clear hS
      by_cases hlt : K0 < m
      · have hcl : K0 * m + K0 < M2 := by rw [← HM2.out]; exact cell_lt hlt hlt
        have hst := unitD_step m K0
        obtain ⟨Rr, hRr⟩ : ∃ r, K0 * m = r := ⟨_, rfl⟩
        rw [hRr] at hcl hst
        obtain ⟨Kk, hKk⟩ : ∃ r, Rr + K0 = r := ⟨_, rfl⟩
        rw [hKk] at hcl hst
        have hw1 : IntKind.i64.wrap ((K0 : Int) * (m : Int)) = (Rr : Int) := by rw [← Int.natCast_mul, hRr]; exact IntWalk.i64_in _ ⟨by omega, by omega⟩
        have hw2 : IntKind.i64.wrap ((Rr : Int) + (K0 : Int)) = (Kk : Int) := by rw [show (Rr : Int) + (K0 : Int) = (Kk : Int) by omega]; exact IntWalk.i64_in _ ⟨by omega, by omega⟩
        obtain ⟨gb, cb, hv, hO⟩ := (H.out.ownS 2 rfl).own (by omega)
        injection hv with hv1 _ hv3
        subst hv1
        subst hv3
        obtain ⟨z, hz⟩ := getElem_of (l := unitD m K0) (k := Kk) (by rw [unitD_length, HM2.out]; exact hcl)
        have hcz := hO.cell hz
        have hfz := hO.frozen Kk
        have h9 := H.out.store 2 Kk (x := 1) ⟨by omega, by omega⟩ rfl
        rw [hst] at h9
        have HS9 := Lib.hid h9
        have u1 := H.out.cell 0 1 rfl rfl
        clear h9 hst hO hz hRr hKk H
        go_wp2
        go_roundw
        case rel => exact ⟨K0 + 1, by go_num, by omega, HS9.out⟩
        case measure => simp [intOf]; omega
      · have hin : m = K0 := by omega
        have hS := H.out
        rw [← hin] at hS
        have hr := HREST.out
        subst hr
        replace H := Lib.hid hS
        clear hS
        subst hin
        have a0 := H.out.cell 21 0 rfl rfl
        have a1 := H.out.cell 21 1 rfl rfl
        have u0 := H.out.cell 0 0 rfl rfl
        have u1 := H.out.cell 0 1 rfl rfl
        have C8 := dtDo_any 0 (ten_mk (H.out.ownInts 28 rfl).2.2 (H.out.ownInts 28 rfl).2.1 (H.out.ownInts 29 rfl).2.2 (H.out.ownInts 29 rfl).2.1) (ten_mk (H.out.ownInts 1 rfl).2.2 (H.out.ownInts 1 rfl).2.1 (H.out.ownInts 2 rfl).2.2 (H.out.ownInts 2 rfl).2.1)
        rw [E6.out] at C8
        go_wp2_with fail
        refine C8.mono ?_; rintro e8 w8 ⟨⟨u, rfl, hu⟩, hb⟩
        obtain ⟨Sfu, nfu, cfu, Dfu, mfu, dfu_, rfl, _, hd, _, _, _, h5⟩ := H.out.addTen hb hu
        have Mfu := Lib.hid hd
        have h6 := h5.allocBox w8.heap.size 26 [.slice Sfu nfu cfu, .slice Dfu mfu dfu_] rfl
        clear C8 hu hb h5 hd a0 a1 u0 u1
        go_upto_region 17 with fail
        generalize w8.alloc (.cells #[.slice Sfu nfu cfu, .slice Dfu mfu dfu_] 26) = vfu at *
        generalize w8.heap.size = gfu at *
        replace H := Lib.hid h6
        clear h6
        have a0 := H.out.cell 24 0 rfl rfl
        have a1 := H.out.cell 24 1 rfl rfl
        replace H := Lib.hid (H.out.lit 3 #[.int .i64 1, .int .i64 0] [1, 0] 2 vfu.heap.size rfl rfl rfl)
        have C9 := ref4Turn_any (ca := 2) (ten_mk (H.out.ownInts 32 rfl).2.2 (H.out.ownInts 32 rfl).2.1 (H.out.ownInts 33 rfl).2.2 (H.out.ownInts 33 rfl).2.1) ((H.out.ownInts 0 rfl).2.2)
        rw [Ta.out] at C9
        go_wp2_with fail
        refine C9.mono ?_; rintro e9 w9 ⟨⟨u, rfl, hu⟩, hb⟩
        obtain ⟨Sta, nta, cta, Dta, mta, dta_, rfl, _, hd, _, _, _, h5⟩ := H.out.addTen hb hu
        have Mta := Lib.hid hd
        have h6 := h5.allocBox w9.heap.size 26 [.slice Sta nta cta, .slice Dta mta dta_] rfl
        clear C9 hu hb h5 hd a0 a1
        go_upto_region 18 with fail
        generalize w9.alloc (.cells #[.slice Sta nta cta, .slice Dta mta dta_] 26) = vta at *
        generalize w9.heap.size = gta at *
        replace H := Lib.hid h6
        clear h6
        have b0 := H.out.cell 27 0 rfl rfl
        have b1 := H.out.cell 27 1 rfl rfl
        replace H := Lib.hid (H.out.lit 3 #[.int .i64 1, .int .i64 0] [1, 0] 2 vta.heap.size rfl rfl rfl)
        have C10 := ref4Turn_any (ca := 2) (ten_mk (H.out.ownInts 33 rfl).2.2 (H.out.ownInts 33 rfl).2.1 (H.out.ownInts 34 rfl).2.2 (H.out.ownInts 34 rfl).2.1) ((H.out.ownInts 0 rfl).2.2)
        rw [Tb.out] at C10
        go_wp2_with fail
        refine C10.mono ?_; rintro e10 w10 ⟨⟨u, rfl, hu⟩, hb⟩
        obtain ⟨Stb, ntb, ctb, Dtb, mtb, dtb_, rfl, _, hd, _, _, _, h5⟩ := H.out.addTen hb hu
        have Mtb := Lib.hid hd
        have h6 := h5.allocBox w10.heap.size 26 [.slice Stb ntb ctb, .slice Dtb mtb dtb_] rfl
        clear C10 hu hb h5 hd b0 b1
        go_upto_region 19 with fail
        generalize w10.alloc (.cells #[.slice Stb ntb ctb, .slice Dtb mtb dtb_] 26) = vtb at *
        generalize w10.heap.size = gtb at *
        replace H := Lib.hid h6
        clear h6
        have tb0 := H.out.cell 0 0 rfl rfl
        have tb1 := H.out.cell 0 1 rfl rfl
        have ta0 := H.out.cell 4 0 rfl rfl
        have ta1 := H.out.cell 4 1 rfl rfl
        have C11 := dtDo_any 0 (ten_mk (H.out.ownInts 1 rfl).2.2 (H.out.ownInts 1 rfl).2.1 (H.out.ownInts 2 rfl).2.2 (H.out.ownInts 2 rfl).2.1) (ten_mk (H.out.ownInts 5 rfl).2.2 (H.out.ownInts 5 rfl).2.1 (H.out.ownInts 6 rfl).2.2 (H.out.ownInts 6 rfl).2.1)
        rw [E7.out] at C11
        go_wp2_with fail
        refine C11.mono ?_; rintro e11 w11 ⟨⟨u, rfl, hu⟩, hb⟩
        obtain ⟨Sbk, nbk, cbk, Dbk, mbk, dbk_, rfl, _, hd, _, _, _, h5⟩ := H.out.addTen hb hu
        have Mbk := Lib.hid hd
        have h6 := h5.allocBox w11.heap.size 26 [.slice Sbk nbk cbk, .slice Dbk mbk dbk_] rfl
        clear C11 hu hb h5 hd tb0 tb1 ta0 ta1
        go_upto_region 20 with fail
        generalize w11.alloc (.cells #[.slice Sbk nbk cbk, .slice Dbk mbk dbk_] 26) = vbk at *
        generalize w11.heap.size = gbk at *
        replace H := Lib.hid h6
        clear h6
        have p0 := H.out.cell 27 0 rfl rfl
        have p1 := H.out.cell 27 1 rfl rfl
        replace H := Lib.hid (H.out.lit 3 #[.int .i64 1, .int .i64 0] [1, 0] 2 vbk.heap.size rfl rfl rfl)
        have C12 := ref4Turn_any (ca := 2) (ten_mk (H.out.ownInts 29 rfl).2.2 (H.out.ownInts 29 rfl).2.1 (H.out.ownInts 30 rfl).2.2 (H.out.ownInts 30 rfl).2.1) ((H.out.ownInts 0 rfl).2.2)
        rw [TP.out] at C12
        go_wp2_with fail
        refine C12.mono ?_; rintro e12 w12 ⟨⟨u, rfl, hu⟩, hb⟩
        obtain ⟨Spt, npt, cpt, Dpt, mpt, dpt_, rfl, _, hd, _, _, _, h5⟩ := H.out.addTen hb hu
        have Mpt := Lib.hid hd
        have h6 := h5.allocBox w12.heap.size 26 [.slice Spt npt cpt, .slice Dpt mpt dpt_] rfl
        clear C12 hu hb h5 hd p0 p1
        go_upto_region 21 with fail
        generalize w12.alloc (.cells #[.slice Spt npt cpt, .slice Dpt mpt dpt_] 26) = vpt at *
        generalize w12.heap.size = gpt at *
        replace H := Lib.hid h6
        clear h6
        have r0 := H.out.cell 22 0 rfl rfl
        have r1 := H.out.cell 22 1 rfl rfl
        have o0 := H.out.cell 25 0 rfl rfl
        have o1 := H.out.cell 25 1 rfl rfl
        have C13 := refSame_eq (ten_mk (H.out.ownInts 23 rfl).2.2 (H.out.ownInts 23 rfl).2.1 (H.out.ownInts 24 rfl).2.2 (H.out.ownInts 24 rfl).2.1) (ten_mk (H.out.ownInts 26 rfl).2.2 (H.out.ownInts 26 rfl).2.1 (H.out.ownInts 27 rfl).2.2 (H.out.ownInts 27 rfl).2.1)
        go_wp2_with fail
        refine C13.mono ?_; rintro e13 w13 ⟨rfl, hb⟩
        replace H := Lib.hid (H.out.below hb)
        clear C13 hb r0 r1 o0 o1
        have fu0 := H.out.cell 15 0 rfl rfl
        have fu1 := H.out.cell 15 1 rfl rfl
        have a0 := H.out.cell 39 0 rfl rfl
        have a1 := H.out.cell 39 1 rfl rfl
        have C14 := refSame_eq (ten_mk (H.out.ownInts 16 rfl).2.2 (H.out.ownInts 16 rfl).2.1 (H.out.ownInts 17 rfl).2.2 (H.out.ownInts 17 rfl).2.1) (ten_mk (H.out.ownInts 46 rfl).2.2 (H.out.ownInts 46 rfl).2.1 (H.out.ownInts 47 rfl).2.2 (H.out.ownInts 47 rfl).2.1)
        go_wp2_with fail
        refine C14.mono ?_; rintro e14 w14 ⟨rfl, hb⟩
        replace H := Lib.hid (H.out.below hb)
        clear C14 hb fu0 fu1 a0 a1
        have bk0 := H.out.cell 4 0 rfl rfl
        have bk1 := H.out.cell 4 1 rfl rfl
        have pt0 := H.out.cell 0 0 rfl rfl
        have pt1 := H.out.cell 0 1 rfl rfl
        have C15 := refSame_eq (ten_mk (H.out.ownInts 5 rfl).2.2 (H.out.ownInts 5 rfl).2.1 (H.out.ownInts 6 rfl).2.2 (H.out.ownInts 6 rfl).2.1) (ten_mk (H.out.ownInts 1 rfl).2.2 (H.out.ownInts 1 rfl).2.1 (H.out.ownInts 2 rfl).2.2 (H.out.ownInts 2 rfl).2.1)
        go_wp2_with fail
        refine C15.mono ?_; rintro e15 w15 ⟨rfl, hb⟩
        replace H := Lib.hid (H.out.below hb)
        clear C15 hb bk0 bk1 pt0 pt1
        go_wp2_with fail
        refine (l7known_any _).mono ?_; rintro e9 w9 ⟨rfl, hb⟩
        replace H := Lib.hid (H.out.below hb)
        clear hb
        go_wp2
        go_ret
        exact ⟨rfl, H.out.base⟩
end Go.Proofs.Ytihjobpdphljiaa
