/- The walk of the law DotRows. -/
import Derived.Test.YtihjobpdphljiaaL7Same
import Derived.Test.YtihjobpdphljiaaDtB
import Derived.Test.YtihjobpdphljiaaDtK
import Derived.Test.YtihjobpdphljiaaSepC
import Derived.Test.YtihjobpdphljiaaKitReg
import Derived.Test.YtihjobpdphljiaaBox
namespace Go.Proofs.Ytihjobpdphljiaa
open Go.RowKit

theorem dropA_some (a : Addr) (c k : Nat) : ∃ b, dropA (some a) c k = some b := by
  by_cases h : c = k
  · exact ⟨a, by rw [dropA, if_pos h]⟩
  · exact ⟨a.add k, by rw [dropA, if_neg h]; rfl⟩
set_option maxRecDepth 100000 in
set_option maxHeartbeats 12800000 in
theorem drows_walk {w : World} {A0 : Option Addr} {n0 c0 : Nat} {x0 : List Int} (nn mm : Int) (h0 : Ints w A0 n0 x0) :
    Calls Try.prog 6 #[.slice A0 n0 c0, .int .i64 nn, .int .i64 mm] w fun e w' => e = .returned (.bool true) ∧ Below w.heap.size w w' := by
  have q0 := Below.refl w.heap.size w
  have hT := tape_new (c := c0) (h0.below q0)
  have hz1 : (w).heap.size = w.heap.size := by simp
  skip
  have s1 := Sep.startTape hz1 hT
  clear hT
  go_enter Try.func6, Try.ntmps6
  go_upto_region 2 with fail
  generalize (w).alloc (.cells #[.slice A0 n0 c0, .int .i64 0] 33) = v at *
  have HQ := Lib.hid q0
  have HZ1 := Lib.hid hz1
  have H := Lib.hid s1
  skip
  clear s1 hz1 q0 h0
  go_cut [8, 9] (fun q1 q2 wx => ∃ x m : Nat, q1 = .int .i64 (x : Int) ∧ q2 = .int .i64 (m : Int) ∧ (1 ≤ x ∧ x ≤ 4) ∧ (1 ≤ m ∧ m ≤ 4) ∧ v = wx)
  case first =>
    have e0 := and3 nn
    have q0a := Int.emod_nonneg nn (b := 4) (by omega)
    have q0b := Int.emod_lt_of_pos nn (b := 4) (by omega)
    have e1 := and3 mm
    have q1a := Int.emod_nonneg mm (b := 4) (by omega)
    have q1b := Int.emod_lt_of_pos mm (b := 4) (by omega)
    go_wp2_with fail
    go_meet
    exact ⟨(1 + nn % 4).toNat, (1 + mm % 4).toNat, by rw [Int.toNat_of_nonneg (by omega)], by rw [Int.toNat_of_nonneg (by omega)], by omega, by omega, rfl⟩
  case rest =>
    obtain ⟨x, m, rfl, rfl, hx, hm, rfl⟩ := hcut
    replace H := Lib.hid (H.out.lit 3 #[.int .i64 (x : Int), .int .i64 2, .int .i64 (m : Int)] [(x : Int), 2, (m : Int)] 3 v.heap.size rfl rfl (by simp [litOk]; omega))
    have C0 := tapeTensor_any (c := 3) (H.out.tape 1 rfl) ((H.out.ownInts 0 rfl).2.2) (by omega)
    go_wp2_with fail
    refine C0.mono ?_; rintro e0 w0 ⟨⟨v3, da, rfl, hOT, hdl⟩, hR⟩
    obtain ⟨vs, vd, na, ma, rfl, ho1, ho2⟩ := hOT
    obtain ⟨Sa, ka, rfl, _, _, _⟩ := ho1.form
    obtain ⟨Da, ja, rfl, _, _, _⟩ := ho2.form
    have La := Lib.hid (show da.length = x * 2 * m by rw [hdl, show Sh.size [(x : Int), 2, (m : Int)] = ((x * 2 * m : Nat) : Int) from sizeN3 (y := 2) (by omega) (by omega) (by omega), Int.toNat_natCast])
    have Fa := Lib.hid ho2.2.1
    have Na := Lib.hid (show ma = x * 2 * m from ho2.len.symm.trans La.out)
    replace H := Lib.hid (H.out.readOwn2 1 rfl hR ho1 ho2 (Ne.symm ty_ne.1))
    clear C0 ho1 ho2 hR hdl
    replace H := Lib.hid (H.out.lit 3 #[.int .i64 (x : Int), .int .i64 (m : Int), .int .i64 3] [(x : Int), (m : Int), 3] 3 w0.heap.size rfl rfl (by simp [litOk]; omega))
    have C1 := tapeTensor_any (c := 3) (H.out.tape 4 rfl) ((H.out.ownInts 0 rfl).2.2) (by omega)
    go_wp2_with fail
    refine C1.mono ?_; rintro e1 w1 ⟨⟨v3, db, rfl, hOT, hdl⟩, hR⟩
    obtain ⟨vs, vd, nb, mb, rfl, ho1, ho2⟩ := hOT
    obtain ⟨Sb, kb, rfl, _, _, _⟩ := ho1.form
    obtain ⟨Db, jb, rfl, _, _, _⟩ := ho2.form
    have Lb := Lib.hid (show db.length = x * m * 3 by rw [hdl, show Sh.size [(x : Int), (m : Int), 3] = ((x * m * 3 : Nat) : Int) from sizeN3 (z := 3) (by omega) (by omega) (by omega), Int.toNat_natCast])
    have Fb := Lib.hid ho2.2.1
    have Nb := Lib.hid (show mb = x * m * 3 from ho2.len.symm.trans Lb.out)
    replace H := Lib.hid (H.out.readOwn2 4 rfl hR ho1 ho2 (Ne.symm ty_ne.1))
    clear C1 ho1 ho2 hR hdl
    replace H := Lib.hid (H.out.allocBox (w1.heap.size) 26 [.slice Sa na ka, .slice Da ma ja] (by simp))
    replace H := Lib.hid (H.out.allocBox (w1.heap.size + 1) 26 [.slice Sb nb kb, .slice Db mb jb] (by simp))
    go_upto_region 4 with fail
    generalize ((w1).alloc (.cells #[.slice Sa na ka, .slice Da ma ja] 26)).alloc (.cells #[.slice Sb nb kb, .slice Db mb jb] 26) = vA at *
    generalize w1.heap.size = g0 at *
    replace H := Lib.hid (H.out.sub (l' := [.box (g0 + 1) 26 [.slice Sb nb kb, .slice Db mb jb], .box (g0) 26 [.slice Sa na ka, .slice Da ma ja], .own 3 (.slice Sb nb kb) nb [(x : Int), (m : Int), 3], .own 2 (.slice Db mb jb) mb db, .own 3 (.slice Sa na ka) na [(x : Int), 2, (m : Int)], .own 2 (.slice Da ma ja) ma da]) [0, 1, 2, 3, 5, 6] rfl (by decide))
    have HOK := Lib.hid (dotOk_three (x := x) (m := m) (by omega) (by omega))
    have Rt := Lib.hid (fun (s d : List Int) (N : Nat) (hs : Sh.right s = true) (hz : Sh.size s = (N : Int)) (hl : d.length = N) => show tenRight s d = true by simp only [tenRight, hs, Bool.true_and, decide_eq_true_eq, hz]; omega)
    have Ra := Lib.hid (Rt.out [(x : Int), 2, (m : Int)] da _ (rightN3 (y := 2) (by omega) (by omega) (by omega)) (sizeN3 (y := 2) (by omega) (by omega) (by omega)) La.out)
    have Rb := Lib.hid (Rt.out [(x : Int), (m : Int), 3] db _ (rightN3 (z := 3) (by omega) (by omega) (by omega)) (sizeN3 (z := 3) (by omega) (by omega) (by omega)) Lb.out)
    have LAL := Lib.hid (show (dotD [(x : Int), 2, (m : Int)] da [(x : Int), (m : Int), 3] db 1).length = x * 6 by rw [dotD_three (by omega) (by omega), gen_length])
    have E1 := Lib.hid (show dotR [(x : Int), 2, (m : Int)] da [(x : Int), (m : Int), 3] db 1 = (0, [(x : Int), 2, 3], dotD [(x : Int), 2, (m : Int)] da [(x : Int), (m : Int), 3] db 1) from dotR_ok (n := 1) (by rw [Ra.out, Rb.out]; rfl) HOK.out)
    have a0 := H.out.cell 1 0 rfl rfl
    have a1 := H.out.cell 1 1 rfl rfl
    have b0 := H.out.cell 0 0 rfl rfl
    have b1 := H.out.cell 0 1 rfl rfl
    have C2 := dtDo_any 1 (ten_mk (H.out.ownInts 4 rfl).2.2 (H.out.ownInts 4 rfl).2.1 (H.out.ownInts 5 rfl).2.2 (H.out.ownInts 5 rfl).2.1) (ten_mk (H.out.ownInts 2 rfl).2.2 (H.out.ownInts 2 rfl).2.1 (H.out.ownInts 3 rfl).2.2 (H.out.ownInts 3 rfl).2.1)
    rw [E1.out] at C2
    go_wp2_with fail
    refine C2.mono ?_; rintro e2 w2 ⟨⟨u, rfl, hu⟩, hb⟩
    obtain ⟨Sal, nal, cal, Dal, mal, dal_, rfl, hs, hd, _, _, _, h5⟩ := H.out.addTen hb hu
    have Mal := Lib.hid hd
    have Qal := Lib.hid hs
    have h6 := h5.allocBox w2.heap.size 26 [.slice Sal nal cal, .slice Dal mal dal_] rfl
    clear C2 hu hb h5 hd hs a0 a1 b0 b1
    go_upto_region 5 with fail
    generalize w2.alloc (.cells #[.slice Sal nal cal, .slice Dal mal dal_] 26) = val at *
    generalize w2.heap.size = gal at *
    replace H := Lib.hid h6
    clear h6
    obtain ⟨N, hN⟩ : ∃ N, x * 6 = N := ⟨_, rfl⟩
    have hw1 : IntKind.i64.wrap ((x : Int) * 6) = (N : Int) := by rw [show (x : Int) * 6 = (N : Int) by omega]; exact IntWalk.i64_in _ ⟨by omega, by omega⟩
    obtain rfl : N = mal := by rw [← hN]; exact LAL.out.symm.trans Mal.out
    have HN := Lib.hid hN
    have dN : ((N : Int) != (N : Int)) = false := by simp
    have hN0 : 0 < N := by omega
    have hN24 : N ≤ 24 := by omega
    clear hN
    have ha0 : 0 < ma := by rw [Na.out]; exact Nat.mul_pos (by omega) (by omega)
    have hb0 : 0 < mb := by rw [Nb.out]; exact Nat.mul_pos (Nat.mul_pos (by omega) (by omega)) (by omega)
    obtain ⟨ga, cb, hv, hO⟩ := (H.out.ownS 8 rfl).own ha0
    injection hv with hv1 _ hv3
    subst hv1
    subst hv3
    clear hO
    obtain ⟨gb, cb, hv, hO⟩ := (H.out.ownS 6 rfl).own hb0
    injection hv with hv1 _ hv3
    subst hv1
    subst hv3
    clear hO
    obtain ⟨gl, cb, hv, hO⟩ := (H.out.ownS 2 rfl).own hN0
    injection hv with hv1 _ hv3
    subst hv1
    subst hv3
    clear hO
    have haj := (H.out.ownInts 8 rfl).2.1
    have hbj := (H.out.ownInts 6 rfl).2.1
    have hlj := (H.out.ownInts 2 rfl).2.1
    have hma : ma ≤ 32 := by rw [Na.out]; exact Nat.le_trans (Nat.mul_le_mul (Nat.mul_le_mul hx.2 (Nat.le_refl 2)) hm.2) (by omega)
    have hmb : mb ≤ 48 := by rw [Nb.out]; exact Nat.le_trans (Nat.mul_le_mul (Nat.mul_le_mul hx.2 hm.2) (Nat.le_refl 3)) (by omega)
    have al0 := H.out.cell 0 0 rfl rfl
    have al1 := H.out.cell 0 1 rfl rfl
    go_wp2_with fail
    clear al0 al1 hw1
    go_loopw [14] (fun tv wr => ∃ k0 : Nat, tv = .int .i64 k0 ∧ k0 ≤ x ∧ Sep w wr [.box gal 26 [.slice Sal nal cal, .slice (some ⟨gl, 0, none⟩) N dal_], .own 3 (.slice Sal nal cal) nal [(x : Int), 2, 3], .own 2 (.slice (some ⟨gl, 0, none⟩) N dal_) N (dotD [(x : Int), 2, (m : Int)] da [(x : Int), (m : Int), 3] db 1), .box (g0 + 1) 26 [.slice Sb nb kb, .slice (some ⟨gb, 0, none⟩) mb jb], .box (g0) 26 [.slice Sa na ka, .slice (some ⟨ga, 0, none⟩) ma ja], .own 3 (.slice Sb nb kb) nb [(x : Int), (m : Int), 3], .own 2 (.slice (some ⟨gb, 0, none⟩) mb jb) mb db, .own 3 (.slice Sa na ka) na [(x : Int), 2, (m : Int)], .own 2 (.slice (some ⟨ga, 0, none⟩) ma ja) ma da]) (fun tv _ => x - (intOf tv).toNat)
    case atStart => exact ⟨0, rfl, by omega, H.out⟩
    case round =>
      clear H
      obtain ⟨k0, rfl, hk0, hS⟩ := hrel
      have H := Lib.hid hS
      clear hS
      obtain ⟨w1, rfl⟩ : ∃ w1 : World, w1 = wr := ⟨_, rfl⟩
      by_cases hlt : k0 < x
      · have hd3 : decide (k0 < x) = true := by simpa using hlt
        obtain ⟨k1, hk1⟩ : ∃ r, k0 + 1 = r := ⟨_, rfl⟩
        obtain ⟨p1, hp1⟩ : ∃ r, k0 * 2 = r := ⟨_, rfl⟩
        obtain ⟨p2, hp2⟩ : ∃ r, p1 * m = r := ⟨_, rfl⟩
        obtain ⟨p3, hp3⟩ : ∃ r, k1 * 2 = r := ⟨_, rfl⟩
        obtain ⟨p4, hp4⟩ : ∃ r, p3 * m = r := ⟨_, rfl⟩
        obtain ⟨q1, hq1⟩ : ∃ r, k0 * 3 = r := ⟨_, rfl⟩
        obtain ⟨q2, hq2⟩ : ∃ r, q1 * m = r := ⟨_, rfl⟩
        obtain ⟨q3, hq3⟩ : ∃ r, k1 * 3 = r := ⟨_, rfl⟩
        obtain ⟨q4, hq4⟩ : ∃ r, q3 * m = r := ⟨_, rfl⟩
        obtain ⟨r1, hr1⟩ : ∃ r, k0 * 6 = r := ⟨_, rfl⟩
        obtain ⟨r2, hr2⟩ : ∃ r, r1 + 6 = r := ⟨_, rfl⟩
        have hPl : p4 = p2 + 2 * m := by rw [← hp4, ← hp2, show p3 = p1 + 2 by omega, Nat.add_mul]
        have hQl : q4 = q2 + 3 * m := by rw [← hq4, ← hq2, show q3 = q1 + 3 by omega, Nat.add_mul]
        have hPm : p4 ≤ ma := by rw [Na.out, ← hp4]; exact Nat.mul_le_mul_right m (by omega)
        have hQm : q4 ≤ mb := by rw [Nb.out, ← hq4, Nat.mul_right_comm]; exact Nat.mul_le_mul_right m (by omega)
        have hR6 : r2 ≤ N := by have := HN.out; omega
        have hwk : IntKind.i64.wrap ((k0 : Int) + 1) = (k1 : Int) := by rw [show (k0 : Int) + 1 = (k1 : Int) by omega]; exact IntWalk.i64_in _ ⟨by omega, by omega⟩
        have hwa : IntKind.i64.wrap ((k0 : Int) * 2) = (p1 : Int) := by rw [show (k0 : Int) * 2 = (p1 : Int) by omega]; exact IntWalk.i64_in _ ⟨by omega, by omega⟩
        have hwb : IntKind.i64.wrap ((p1 : Int) * (m : Int)) = (p2 : Int) := by rw [← Int.natCast_mul, hp2]; exact IntWalk.i64_in _ ⟨by omega, by omega⟩
        have hwc : IntKind.i64.wrap ((k1 : Int) * 2) = (p3 : Int) := by rw [show (k1 : Int) * 2 = (p3 : Int) by omega]; exact IntWalk.i64_in _ ⟨by omega, by omega⟩
        have hwd : IntKind.i64.wrap ((p3 : Int) * (m : Int)) = (p4 : Int) := by rw [← Int.natCast_mul, hp4]; exact IntWalk.i64_in _ ⟨by omega, by omega⟩
        have hwe : IntKind.i64.wrap ((k0 : Int) * 3) = (q1 : Int) := by rw [show (k0 : Int) * 3 = (q1 : Int) by omega]; exact IntWalk.i64_in _ ⟨by omega, by omega⟩
        have hwf : IntKind.i64.wrap ((q1 : Int) * (m : Int)) = (q2 : Int) := by rw [← Int.natCast_mul, hq2]; exact IntWalk.i64_in _ ⟨by omega, by omega⟩
        have hwg : IntKind.i64.wrap ((k1 : Int) * 3) = (q3 : Int) := by rw [show (k1 : Int) * 3 = (q3 : Int) by omega]; exact IntWalk.i64_in _ ⟨by omega, by omega⟩
        have hwh : IntKind.i64.wrap ((q3 : Int) * (m : Int)) = (q4 : Int) := by rw [← Int.natCast_mul, hq4]; exact IntWalk.i64_in _ ⟨by omega, by omega⟩
        have hwi : IntKind.i64.wrap ((k0 : Int) * 6) = (r1 : Int) := by rw [show (k0 : Int) * 6 = (r1 : Int) by omega]; exact IntWalk.i64_in _ ⟨by omega, by omega⟩
        have hwj : IntKind.i64.wrap ((r1 : Int) + 6) = (r2 : Int) := by rw [show (r1 : Int) + 6 = (r2 : Int) by omega]; exact IntWalk.i64_in _ ⟨by omega, by omega⟩
        have hsP := run_cut64 (A := ⟨ga, 0, none⟩) (n := ma) (c := ja) (lo := p2) (hi := p4) (by omega) (by omega) (by omega)
        obtain ⟨AP, hAP⟩ := dropA_some ⟨ga, 0, none⟩ ja p2
        obtain ⟨NP, hNP⟩ : ∃ r, p4 - p2 = r := ⟨_, rfl⟩
        obtain ⟨CP, hCP⟩ : ∃ r, ja - p2 = r := ⟨_, rfl⟩
        rw [hAP, hNP, hCP] at hsP
        have hleP : NP ≤ CP := by omega
        have hsQ := run_cut64 (A := ⟨gb, 0, none⟩) (n := mb) (c := jb) (lo := q2) (hi := q4) (by omega) (by omega) (by omega)
        obtain ⟨AQ, hAQ⟩ := dropA_some ⟨gb, 0, none⟩ jb q2
        obtain ⟨NQ, hNQ⟩ : ∃ r, q4 - q2 = r := ⟨_, rfl⟩
        obtain ⟨CQ, hCQ⟩ : ∃ r, jb - q2 = r := ⟨_, rfl⟩
        rw [hAQ, hNQ, hCQ] at hsQ
        have hleQ : NQ ≤ CQ := by omega
        have hsR := run_cut64 (A := ⟨gl, 0, none⟩) (n := N) (c := dal_) (lo := r1) (hi := r2) (by omega) (by omega) (by omega)
        obtain ⟨AR, hAR⟩ := dropA_some ⟨gl, 0, none⟩ dal_ r1
        obtain ⟨NR, hNR⟩ : ∃ r, r2 - r1 = r := ⟨_, rfl⟩
        obtain ⟨CR, hCR⟩ : ∃ r, dal_ - r1 = r := ⟨_, rfl⟩
        rw [hAR, hNR, hCR] at hsR
        have hleR : NR ≤ CR := by omega
        have hNP2 : NP = 2 * m := by omega
        have hNQ2 : NQ = 3 * m := by omega
        have hNR2 : 6 = NR := by omega
        have HP := Lib.hid (fun (w9 : World) (hI : Ints w9 (some ⟨ga, 0, none⟩) ma da) => show Ints w9 (some AP) NP ((da.drop p2).take NP) by have := hI.cut (lo := p2) (hi := p4) (by omega) hPm haj; rwa [hAP, hNP] at this)
        have HQ := Lib.hid (fun (w9 : World) (hI : Ints w9 (some ⟨gb, 0, none⟩) mb db) => show Ints w9 (some AQ) NQ ((db.drop q2).take NQ) by have := hI.cut (lo := q2) (hi := q4) (by omega) hQm hbj; rwa [hAQ, hNQ] at this)
        subst hNR2
        have HR := Lib.hid (fun (w9 : World) (hI : Ints w9 (some ⟨gl, 0, none⟩) N (dotD [(x : Int), 2, (m : Int)] da [(x : Int), (m : Int), 3] db 1)) => show Ints w9 (some AR) 6 (((dotD [(x : Int), 2, (m : Int)] da [(x : Int), (m : Int), 3] db 1).drop r1).take 6) by have := hI.cut (lo := r1) (hi := r2) (by omega) hR6 hlj; rwa [hAR, hNR] at this)
        have LP := Lib.hid (show ((da.drop p2).take NP).length = 2 * m by rw [List.length_take, List.length_drop, La.out, ← Na.out]; omega)
        have LQ := Lib.hid (show ((db.drop q2).take NQ).length = m * 3 by rw [List.length_take, List.length_drop, Lb.out, ← Nb.out]; omega)
        have HW := Lib.hid (show dotD [2, (m : Int)] ((da.drop p2).take NP) [(m : Int), 3] ((db.drop q2).take NQ) 0 = ((dotD [(x : Int), 2, (m : Int)] da [(x : Int), (m : Int), 3] db 1).drop r1).take 6 by have := dot_page (d := da) (k := db) (show x ≤ 4 by omega) (show m ≤ 4 by omega) hlt; rw [hr1, hp1, hp2, hq1, hq2, ← hNP2, ← hNQ2] at this; exact this.symm)
        have RP := Lib.hid (Rt.out [2, (m : Int)] ((da.drop p2).take NP) _ (rightN2 (x := 2) (by omega) (by omega)) (sizeN2 (x := 2) (by omega) (by omega)) LP.out)
        have RQ := Lib.hid (Rt.out [(m : Int), 3] ((db.drop q2).take NQ) _ (rightN2 (y := 3) (by omega) (by omega)) (sizeN2 (y := 3) (by omega) (by omega)) LQ.out)
        have E2 := Lib.hid (show dotR [2, (m : Int)] ((da.drop p2).take NP) [(m : Int), 3] ((db.drop q2).take NQ) 0 = (0, [2, 3], ((dotD [(x : Int), 2, (m : Int)] da [(x : Int), (m : Int), 3] db 1).drop r1).take 6) by rw [← HW.out]; exact dotR_ok (n := 0) (by rw [RP.out, RQ.out]; rfl) (dotOk_two (x := 2) (y := 3) (by omega) (by omega) (by omega)))
        have RM := Lib.hid (Rt.out [(m : Int)] (((da.drop p2).take NP).take m) m (dotOk_row (by omega)).ra (by rw [Sh.size_of (dotOk_row (by omega)).ra]; simp [Sh.pr]) (by rw [List.length_take, LP.out]; omega))
        have E3 := Lib.hid (show dotR [(m : Int)] (((da.drop p2).take NP).take m) [(m : Int), 3] ((db.drop q2).take NQ) 0 = (0, [3], (((dotD [(x : Int), 2, (m : Int)] da [(x : Int), (m : Int), 3] db 1).drop r1).take 6).take 3) by rw [← HW.out, ← dot_rowOf (by omega)]; exact dotR_ok (n := 0) (by rw [RM.out, RQ.out]; rfl) (dotOk_row (by omega)))
        have hmP : m ≤ NP := by omega
        have HK1 := Lib.hid hk1
        clear hk1 hp1 hp2 hp3 hp4 hq1 hq2 hq3 hq4 hr1 hr2 hPl hQl hPm hQm hR6 hNP hNQ hNR hCP hCQ hCR hNP2 hNQ2 hAP hAQ hAR RP RQ RM HW
        have HL := Lib.hid (H.out.lit 3 #[.int .i64 2, .int .i64 (m : Int)] [2, (m : Int)] 2 w1.heap.size rfl rfl (by simp [litOk]; try omega))
        have a0 := HL.out.cell 5 0 rfl rfl
        have a1 := HL.out.cell 5 1 rfl rfl
        have h7 := HL.out.allocBox (w1.heap.size + 1) 26 [.slice (some ⟨w1.heap.size, 0, none⟩) 2 2, .slice (some AP) NP CP] (by simp)
        go_upto_region 11 with fail
        generalize (w1.alloc (.cells #[.int .i64 2, .int .i64 (m : Int)] 3)).alloc (.cells #[.slice (some ⟨w1.heap.size, 0, none⟩) 2 2, .slice (some AP) NP CP] 26) = vp at *
        generalize w1.heap.size = gp at *
        replace H := Lib.hid h7
        clear h7 HL a0 a1
        have HL := Lib.hid (H.out.lit 3 #[.int .i64 (m : Int), .int .i64 3] [(m : Int), 3] 2 vp.heap.size rfl rfl (by simp [litOk]; try omega))
        have b0 := HL.out.cell 6 0 rfl rfl
        have b1 := HL.out.cell 6 1 rfl rfl
        have h7 := HL.out.allocBox (vp.heap.size + 1) 26 [.slice (some ⟨vp.heap.size, 0, none⟩) 2 2, .slice (some AQ) NQ CQ] (by simp)
        go_upto_region 12 with fail
        generalize (vp.alloc (.cells #[.int .i64 (m : Int), .int .i64 3] 3)).alloc (.cells #[.slice (some ⟨vp.heap.size, 0, none⟩) 2 2, .slice (some AQ) NQ CQ] 26) = vq at *
        generalize vp.heap.size = gq at *
        replace H := Lib.hid h7
        clear h7 HL b0 b1
        have p0 := H.out.cell 2 0 rfl rfl
        have p1 := H.out.cell 2 1 rfl rfl
        have q0 := H.out.cell 0 0 rfl rfl
        have q1 := H.out.cell 0 1 rfl rfl
        have C3 := dtDo_any 0 (ten_mk (H.out.ownInts 3 rfl).2.2 (Nat.le_refl 2) (HP.out _ (H.out.ownInts 12 rfl).2.2) hleP) (ten_mk (H.out.ownInts 1 rfl).2.2 (Nat.le_refl 2) (HQ.out _ (H.out.ownInts 10 rfl).2.2) hleQ)
        rw [E2.out] at C3
        go_wp2_with fail
        refine C3.mono ?_; rintro e3 w3 ⟨⟨u, rfl, hu⟩, hb⟩
        obtain ⟨Sw, nw, cw, Dw, mw, dw_, rfl, hs, hd, _, _, _, h5⟩ := H.out.addTen hb hu
        have Mw := Lib.hid hd
        have Qw := Lib.hid hs
        have h6 := h5.allocBox w3.heap.size 26 [.slice Sw nw cw, .slice Dw mw dw_] rfl
        clear C3 hu hb h5 hd hs p0 p1 q0 q1
        go_upto_region 13 with fail
        generalize w3.alloc (.cells #[.slice Sw nw cw, .slice Dw mw dw_] 26) = vw at *
        generalize w3.heap.size = gw at *
        replace H := Lib.hid h6
        clear h6
        have hmw : (((dotD [(x : Int), 2, (m : Int)] da [(x : Int), (m : Int), 3] db 1).drop r1).take 6).length = 6 := by have := (HR.out _ (H.out.ownInts 9 rfl).2.2).len; exact this
        obtain rfl : 6 = mw := hmw.symm.trans Mw.out
        clear hmw
        obtain ⟨gwd, cb, hv, hO⟩ := (H.out.ownS 2 rfl).own (by omega)
        injection hv with hv1 _ hv3
        subst hv1
        subst hv3
        clear hO
        have w0 := H.out.cell 0 0 rfl rfl
        have w1 := H.out.cell 0 1 rfl rfl
        have al0 := H.out.cell 7 0 rfl rfl
        have al1 := H.out.cell 7 1 rfl rfl
        have CS := Lib.hid (fun q => bookSame64_eq (w := vw.drewN q) (c := dw_) (d := CR) ((H.out.drewN q).ownInts 2 rfl).2.2 (HR.out _ ((H.out.drewN q).ownInts 9 rfl).2.2))
        go_quiet ((go_at_call 19; with_reducible exact (CS.out _).mono fun _ _ ⟨e, q, h⟩ => ⟨e, _, h.trans (World.drewN_drewN _ _ _)⟩))
        go_upto_region 15 with fail
        replace H := Lib.hid (H.out.drewN nq)
        generalize vw.drewN nq = vx at *
        clear w0 al0 al1 CS
        go_cut [19, 20] (fun u1 u2 wx => ∃ (gr : Nat) (Sr Dr : Option Addr) (nr cr mr dr : Nat), u1 = .pointer (some ⟨gr, 0, none⟩) ∧ u2 = .int .i64 0 ∧ Sep w wx (.box gr 26 [.slice Sr nr cr, .slice Dr mr dr] :: .own 3 (.slice Sr nr cr) nr [3] :: .own 2 (.slice Dr mr dr) mr ((((dotD [(x : Int), 2, (m : Int)] da [(x : Int), (m : Int), 3] db 1).drop r1).take 6).take 3) :: [.box gw 26 [.slice Sw nw cw, .slice (some ⟨gwd, 0, none⟩) 6 dw_], .own 3 (.slice Sw nw cw) nw [2, 3], .own 2 (.slice (some ⟨gwd, 0, none⟩) 6 dw_) 6 (((dotD [(x : Int), 2, (m : Int)] da [(x : Int), (m : Int), 3] db 1).drop r1).take 6), .box (gq + 1) 26 [.slice (some ⟨gq, 0, none⟩) 2 2, .slice (some AQ) NQ CQ], .own 3 (.slice (some ⟨gq, 0, none⟩) 2 2) 2 [(m : Int), 3], .box (gp + 1) 26 [.slice (some ⟨gp, 0, none⟩) 2 2, .slice (some AP) NP CP], .own 3 (.slice (some ⟨gp, 0, none⟩) 2 2) 2 [2, (m : Int)], .box gal 26 [.slice Sal nal cal, .slice (some ⟨gl, 0, none⟩) N dal_], .own 3 (.slice Sal nal cal) nal [(x : Int), 2, 3], .own 2 (.slice (some ⟨gl, 0, none⟩) N dal_) N (dotD [(x : Int), 2, (m : Int)] da [(x : Int), (m : Int), 3] db 1), .box (g0 + 1) 26 [.slice Sb nb kb, .slice (some ⟨gb, 0, none⟩) mb jb], .box (g0) 26 [.slice Sa na ka, .slice (some ⟨ga, 0, none⟩) ma ja], .own 3 (.slice Sb nb kb) nb [(x : Int), (m : Int), 3], .own 2 (.slice (some ⟨gb, 0, none⟩) mb jb) mb db, .own 3 (.slice Sa na ka) na [(x : Int), 2, (m : Int)], .own 2 (.slice (some ⟨ga, 0, none⟩) ma ja) ma da]))
        case first =>
          have hsM := run_pre64 (A := AP) (n := NP) (c := CP) hmP hleP
          have H0 := Lib.hid H.out.drew
          have ca0 := H0.out.cell 5 0 rfl rfl
          have ca1 := H0.out.cell 5 1 rfl rfl
          have ca2 := H0.out.cell 3 0 rfl rfl
          have ca3 := H0.out.cell 3 1 rfl rfl
          refine wp_region_held_drew (S := (fun w' => w'.cell? ⟨gp + 1, 0, none⟩ = some (.slice (some ⟨gp, 0, none⟩) 2 2) ∧ w'.cell? ⟨gp + 1, 1, none⟩ = some (.slice (some AP) NP CP) ∧ w'.cell? ⟨gq + 1, 0, none⟩ = some (.slice (some ⟨gq, 0, none⟩) 2 2) ∧ w'.cell? ⟨gq + 1, 1, none⟩ = some (.slice (some AQ) NQ CQ))) (by kernel_rfl) ?_ (fun hHeld => ?_)
          · exact ⟨ca0, ca1, ca2, ca3⟩
          first | (refine takeU (i := 0) (oi := { dst := some 114, op := Op.move (Operand.tmp 9), type := 3, pos := "law.go:104", after := #[], guard := none }) rfl (by kernel_rfl) (by kernel_rfl) (by kernel_rfl) (fun _ _ _ h => h) ?_ hHeld ?_; (focus rfl)) | (refine takeW (i := 0) (oi := { dst := some 114, op := Op.move (Operand.tmp 9), type := 3, pos := "law.go:104", after := #[], guard := none }) ?_ rfl (by kernel_rfl) (by kernel_rfl) (by kernel_rfl) (fun _ _ _ h => h) ?_ ?_ hHeld ?_; rotate_left; (focus rfl); (focus (intro wq hSq; obtain ⟨s0, s1, s2, s3⟩ := hSq; (first | (go_simp; done) | (go_simp; with_reducible rfl)))))
          try simp only [Act.put, List.setIfInBounds_toArray, List.set_cons_zero, List.set_cons_succ]
          first | (refine takeU (i := 2) (oi := { dst := some 116, op := Op.fieldAddr 26 (Operand.tmp 15) 1, type := 0, pos := "law.go:104", after := #[], guard := none }) rfl (by kernel_rfl) (by kernel_rfl) (by kernel_rfl) (fun _ _ _ h => h) ?_ hHeld ?_; (focus rfl)) | (refine takeW (i := 2) (oi := { dst := some 116, op := Op.fieldAddr 26 (Operand.tmp 15) 1, type := 0, pos := "law.go:104", after := #[], guard := none }) ?_ rfl (by kernel_rfl) (by kernel_rfl) (by kernel_rfl) (fun _ _ _ h => h) ?_ ?_ hHeld ?_; rotate_left; (focus rfl); (focus (intro wq hSq; obtain ⟨s0, s1, s2, s3⟩ := hSq; (first | (go_simp; done) | (go_simp; with_reducible rfl)))))
          try simp only [Act.put, List.setIfInBounds_toArray, List.set_cons_zero, List.set_cons_succ]
          first | (refine takeU (i := 3) (oi := { dst := some 117, op := Op.load 24 (Operand.tmp 116), type := 24, pos := "law.go:104", after := #[{ on := 2, ground := Ground.data }], guard := none }) rfl (by kernel_rfl) (by kernel_rfl) (by kernel_rfl) (fun _ _ _ h => h) ?_ hHeld ?_; (focus rfl)) | (refine takeW (i := 3) (oi := { dst := some 117, op := Op.load 24 (Operand.tmp 116), type := 24, pos := "law.go:104", after := #[{ on := 2, ground := Ground.data }], guard := none }) ?_ rfl (by kernel_rfl) (by kernel_rfl) (by kernel_rfl) (fun _ _ _ h => h) ?_ ?_ hHeld ?_; rotate_left; (focus rfl); (focus (intro wq hSq; obtain ⟨s0, s1, s2, s3⟩ := hSq; (first | (go_simp; done) | (go_simp; with_reducible rfl)))))
          try simp only [Act.put, List.setIfInBounds_toArray, List.set_cons_zero, List.set_cons_succ]
          first | (refine takeU (i := 4) (oi := { dst := some 118, op := Op.move (Operand.tmp 9), type := 3, pos := "law.go:104", after := #[], guard := none }) rfl (by kernel_rfl) (by kernel_rfl) (by kernel_rfl) (fun _ _ _ h => h) ?_ hHeld ?_; (focus rfl)) | (refine takeW (i := 4) (oi := { dst := some 118, op := Op.move (Operand.tmp 9), type := 3, pos := "law.go:104", after := #[], guard := none }) ?_ rfl (by kernel_rfl) (by kernel_rfl) (by kernel_rfl) (fun _ _ _ h => h) ?_ ?_ hHeld ?_; rotate_left; (focus rfl); (focus (intro wq hSq; obtain ⟨s0, s1, s2, s3⟩ := hSq; (first | (go_simp; done) | (go_simp; with_reducible rfl)))))
          try simp only [Act.put, List.setIfInBounds_toArray, List.set_cons_zero, List.set_cons_succ]
          first | (refine takeU (i := 5) (oi := { dst := some 119, op := Op.slice 24 (Operand.tmp 117) none (some (Operand.tmp 118)) none, type := 24, pos := "law.go:104", after := #[{ on := 3, ground := Ground.data }, { on := 4, ground := Ground.data }], guard := none }) rfl (by kernel_rfl) (by kernel_rfl) (by kernel_rfl) (fun _ _ _ h => h) ?_ hHeld ?_; (focus rfl)) | (refine takeW (i := 5) (oi := { dst := some 119, op := Op.slice 24 (Operand.tmp 117) none (some (Operand.tmp 118)) none, type := 24, pos := "law.go:104", after := #[{ on := 3, ground := Ground.data }, { on := 4, ground := Ground.data }], guard := none }) ?_ rfl (by kernel_rfl) (by kernel_rfl) (by kernel_rfl) (fun _ _ _ h => h) ?_ ?_ hHeld ?_; rotate_left; (focus rfl); (focus (intro wq hSq; obtain ⟨s0, s1, s2, s3⟩ := hSq; (first | (go_simp; done) | (go_simp; with_reducible rfl)))))
          try simp only [Act.put, List.setIfInBounds_toArray, List.set_cons_zero, List.set_cons_succ]
          first | (refine takeU (i := 7) (oi := { dst := some 121, op := Op.load 26 (Operand.tmp 16), type := 26, pos := "law.go:104", after := #[], guard := none }) rfl (by kernel_rfl) (by kernel_rfl) (by kernel_rfl) (fun _ _ _ h => h) ?_ hHeld ?_; (focus rfl)) | (refine takeW (i := 7) (oi := { dst := some 121, op := Op.load 26 (Operand.tmp 16), type := 26, pos := "law.go:104", after := #[], guard := none }) ?_ rfl (by kernel_rfl) (by kernel_rfl) (by kernel_rfl) (fun _ _ _ h => h) ?_ ?_ hHeld ?_; rotate_left; (focus rfl); (focus (intro wq hSq; obtain ⟨s0, s1, s2, s3⟩ := hSq; (first | (go_simp; done) | (go_simp; with_reducible rfl)))))
          try simp only [Act.put, List.setIfInBounds_toArray, List.set_cons_zero, List.set_cons_succ]
          refine wpAnyH_ready (rs := [1, 12]) (by kernel_rfl) (by simp) ?_
          refine (AllReadyH.cons (o := { dst := some 115, op := Op.buildSlice 22 1 #[(0, Operand.tmp 114)], type := 22, pos := "law.go:104", after := #[{ on := 0, ground := Ground.data }], guard := none }) rfl (fun K hK => ?_) (AllReadyH.cons (o := { dst := some 19, op := Op.alloc 26, type := 0, pos := "law.go:104", after := #[], guard := none }) rfl (fun K hK => ?_) AllReadyH.nil))
          · (have H1 := Lib.hid ((H.out.lit 3 #[.int .i64 (m : Int)] [(m : Int)] 1 vx.heap.size rfl rfl (by simp [litOk]; omega)).drew); have cb0 := H1.out.cell 6 0 rfl rfl; have cb1 := H1.out.cell 6 1 rfl rfl; have cb2 := H1.out.cell 4 0 rfl rfl; have cb3 := H1.out.cell 4 1 rfl rfl)
            go_simp
            try go_wp2_with fail
            refine hK.out _ _ ?_ (fun hHeld2 => ?_)
            · first | assumption | (exact ⟨cb0, cb1, cb2, cb3⟩)
            clear hK K hHeld
            have hHeld := hHeld2; clear hHeld2
            try simp only [Act.put, List.setIfInBounds_toArray, List.set_cons_zero, List.set_cons_succ]
            first | (refine takeU (i := 6) (oi := { dst := some 120, op := Op.build 26 #[(0, Operand.tmp 115), (1, Operand.tmp 119)], type := 26, pos := "law.go:104", after := #[{ on := 1, ground := Ground.data }, { on := 5, ground := Ground.data }], guard := none }) rfl (by kernel_rfl) (by kernel_rfl) (by kernel_rfl) (fun _ _ _ h => h) ?_ hHeld ?_; (focus rfl)) | (refine takeW (i := 6) (oi := { dst := some 120, op := Op.build 26 #[(0, Operand.tmp 115), (1, Operand.tmp 119)], type := 26, pos := "law.go:104", after := #[{ on := 1, ground := Ground.data }, { on := 5, ground := Ground.data }], guard := none }) ?_ rfl (by kernel_rfl) (by kernel_rfl) (by kernel_rfl) (fun _ _ _ h => h) ?_ ?_ hHeld ?_; rotate_left; (focus rfl); (focus (intro wq hSq; obtain ⟨s0, s1, s2, s3⟩ := hSq; (first | (go_simp; done) | (go_simp; with_reducible rfl)))))
            try simp only [Act.put, List.setIfInBounds_toArray, List.set_cons_zero, List.set_cons_succ]
            refine wpAnyH_ready (rs := [8, 12]) (by kernel_rfl) (by simp) ?_
            refine (AllReadyH.cons (o := { dst := some 122, op := Op.call { callee := Callee.value (Operand.func 14), args := #[Operand.tmp 120, Operand.tmp 121, Operand.const (Value.int IntKind.i64 0)], argTypes := #[26, 26, 3] }, type := 39, pos := "law.go:104", after := #[{ on := 6, ground := Ground.data }, { on := 7, ground := Ground.data }], guard := none }) rfl (fun K hK => ?_) (AllReadyH.cons (o := { dst := some 19, op := Op.alloc 26, type := 0, pos := "law.go:104", after := #[], guard := none }) rfl (fun K hK => ?_) AllReadyH.nil))
            · first | (refine effU ?_ ?_; (focus rfl)) | (go_simp; (go_at_call 14; have CC := dtDo_any 0 (ten_mk (H1.out.ownInts 0 rfl).2.2 (Nat.le_refl 1) ((HP.out _ (H1.out.ownInts 16 rfl).2.2).take hmP) (Nat.le_trans hmP hleP)) (ten_mk (H1.out.ownInts 5 rfl).2.2 (Nat.le_refl 2) (HQ.out _ (H1.out.ownInts 14 rfl).2.2) hleQ); rw [E3.out] at CC; (with_reducible refine CC.mono ?_); rintro e8 x1 ⟨⟨u, rfl, hu⟩, hb⟩; obtain ⟨Sr, nr, cr, Dr, mr, dr, rfl, _, _, _, _, _, h8⟩ := H1.out.addTen hb hu; have H8 := Lib.hid h8; have cc0 := H8.out.cell 8 0 rfl rfl; have cc1 := H8.out.cell 8 1 rfl rfl; have cc2 := H8.out.cell 6 0 rfl rfl; have cc3 := H8.out.cell 6 1 rfl rfl; clear hu hb h8); go_wp2_with fail)
              refine hK.out _ _ ?_ (fun hHeld2 => ?_)
              · first | assumption | (exact ⟨cc0, cc1, cc2, cc3⟩)
              clear hK K hHeld
              have hHeld := hHeld2; clear hHeld2
              try simp only [Act.put, List.setIfInBounds_toArray, List.set_cons_zero, List.set_cons_succ]
              first | (refine takeU (i := 9) (oi := { dst := some 113, op := Op.move (Operand.tmp 122), type := 39, pos := "law.go:104", after := #[{ on := 8, ground := Ground.data }], guard := none }) rfl (by kernel_rfl) (by kernel_rfl) (by kernel_rfl) (fun _ _ _ h => h) ?_ hHeld ?_; (focus rfl)) | (refine takeW (i := 9) (oi := { dst := some 113, op := Op.move (Operand.tmp 122), type := 39, pos := "law.go:104", after := #[{ on := 8, ground := Ground.data }], guard := none }) ?_ rfl (by kernel_rfl) (by kernel_rfl) (by kernel_rfl) (fun _ _ _ h => h) ?_ ?_ hHeld ?_; rotate_left; (focus rfl); (focus (intro wq hSq; obtain ⟨s0, s1, s2, s3⟩ := hSq; (first | (go_simp; done) | (go_simp; with_reducible rfl)))))
              try simp only [Act.put, List.setIfInBounds_toArray, List.set_cons_zero, List.set_cons_succ]
              first | (refine takeU (i := 10) (oi := { dst := some 123, op := Op.extract (Operand.tmp 113) 0, type := 26, pos := "law.go:104", after := #[{ on := 9, ground := Ground.data }], guard := none }) rfl (by kernel_rfl) (by kernel_rfl) (by kernel_rfl) (fun _ _ _ h => h) ?_ hHeld ?_; (focus rfl)) | (refine takeW (i := 10) (oi := { dst := some 123, op := Op.extract (Operand.tmp 113) 0, type := 26, pos := "law.go:104", after := #[{ on := 9, ground := Ground.data }], guard := none }) ?_ rfl (by kernel_rfl) (by kernel_rfl) (by kernel_rfl) (fun _ _ _ h => h) ?_ ?_ hHeld ?_; rotate_left; (focus rfl); (focus (intro wq hSq; obtain ⟨s0, s1, s2, s3⟩ := hSq; (first | (go_simp; done) | (go_simp; with_reducible rfl)))))
              try simp only [Act.put, List.setIfInBounds_toArray, List.set_cons_zero, List.set_cons_succ]
              first | (refine takeU (i := 11) (oi := { dst := some 124, op := Op.extract (Operand.tmp 113) 1, type := 38, pos := "law.go:104", after := #[{ on := 9, ground := Ground.data }, { on := 13, ground := Ground.gcOnly Departure.lateStores }], guard := none }) rfl (by kernel_rfl) (by kernel_rfl) (by kernel_rfl) (fun _ _ _ h => h) ?_ hHeld ?_; (focus rfl)) | (refine takeW (i := 11) (oi := { dst := some 124, op := Op.extract (Operand.tmp 113) 1, type := 38, pos := "law.go:104", after := #[{ on := 9, ground := Ground.data }, { on := 13, ground := Ground.gcOnly Departure.lateStores }], guard := none }) ?_ rfl (by kernel_rfl) (by kernel_rfl) (by kernel_rfl) (fun _ _ _ h => h) ?_ ?_ hHeld ?_; rotate_left; (focus rfl); (focus (intro wq hSq; obtain ⟨s0, s1, s2, s3⟩ := hSq; (first | (go_simp; done) | (go_simp; with_reducible rfl)))))
              try simp only [Act.put, List.setIfInBounds_toArray, List.set_cons_zero, List.set_cons_succ]
              refine wpAnyH_ready (rs := [12]) (by kernel_rfl) (by simp) ?_
              refine (AllReadyH.cons (o := { dst := some 19, op := Op.alloc 26, type := 0, pos := "law.go:104", after := #[], guard := none }) rfl (fun K hK => ?_) AllReadyH.nil)
              (have H2 := Lib.hid (H8.out.allocBox x1.heap.size 26 [.slice none 0 0, .slice none 0 0] rfl); have cd0 := H2.out.cell 9 0 rfl rfl; have cd1 := H2.out.cell 9 1 rfl rfl; have cd2 := H2.out.cell 7 0 rfl rfl; have cd3 := H2.out.cell 7 1 rfl rfl)
              go_simp
              try go_wp2_with fail
              refine hK.out _ _ ?_ (fun hHeld2 => ?_)
              · first | assumption | (exact ⟨cd0, cd1, cd2, cd3⟩)
              clear hK K hHeld
              have hHeld := hHeld2; clear hHeld2
              try simp only [Act.put, List.setIfInBounds_toArray, List.set_cons_zero, List.set_cons_succ]
              refine wpAnyH_ready (rs := [13]) (by kernel_rfl) (by simp) ?_
              refine (AllReadyH.cons (o := { dst := none, op := Op.store 26 (Operand.tmp 19) (Operand.tmp 123), type := 0, pos := "law.go:104", after := #[{ on := 12, ground := Ground.data }, { on := 10, ground := Ground.data }, { on := 8, ground := Ground.chain }, { on := 0, ground := Ground.phase }, { on := 1, ground := Ground.phase }, { on := 2, ground := Ground.phase }, { on := 3, ground := Ground.phase }, { on := 4, ground := Ground.phase }, { on := 5, ground := Ground.phase }, { on := 6, ground := Ground.phase }, { on := 7, ground := Ground.phase }, { on := 8, ground := Ground.phase }, { on := 9, ground := Ground.phase }, { on := 10, ground := Ground.phase }, { on := 11, ground := Ground.textOnly Departure.lateStores }, { on := 12, ground := Ground.phase }], guard := none }) rfl (fun K hK => ?_) AllReadyH.nil)
              (have H9 := Lib.hid (H8.out.allocBox x1.heap.size 26 [.slice Sr nr cr, .slice Dr mr dr] rfl); have ce0 := H9.out.cell 9 0 rfl rfl; have ce1 := H9.out.cell 9 1 rfl rfl; have ce2 := H9.out.cell 7 0 rfl rfl; have ce3 := H9.out.cell 7 1 rfl rfl)
              go_simp
              try go_wp2_with fail
              refine hK.out _ _ ?_ (fun hHeld2 => ?_)
              · first | assumption | (exact ⟨ce0, ce1, ce2, ce3⟩)
              clear hK K hHeld
              have hHeld := hHeld2; clear hHeld2
              try simp only [Act.put, List.setIfInBounds_toArray, List.set_cons_zero, List.set_cons_succ]
              first | (refine takeU (i := 14) (oi := { dst := some 20, op := Op.assign (Operand.tmp 124), type := 38, pos := "law.go:104", after := #[{ on := 11, ground := Ground.data }, { on := 13, ground := Ground.chain }, { on := 0, ground := Ground.phase }, { on := 1, ground := Ground.phase }, { on := 2, ground := Ground.phase }, { on := 3, ground := Ground.phase }, { on := 4, ground := Ground.phase }, { on := 5, ground := Ground.phase }, { on := 6, ground := Ground.phase }, { on := 7, ground := Ground.phase }, { on := 8, ground := Ground.phase }, { on := 9, ground := Ground.phase }, { on := 10, ground := Ground.phase }, { on := 11, ground := Ground.phase }, { on := 12, ground := Ground.phase }, { on := 13, ground := Ground.phase }], guard := none }) rfl (by kernel_rfl) (by kernel_rfl) (by kernel_rfl) (fun _ _ _ h => h) ?_ hHeld ?_; (focus rfl)) | (refine takeW (i := 14) (oi := { dst := some 20, op := Op.assign (Operand.tmp 124), type := 38, pos := "law.go:104", after := #[{ on := 11, ground := Ground.data }, { on := 13, ground := Ground.chain }, { on := 0, ground := Ground.phase }, { on := 1, ground := Ground.phase }, { on := 2, ground := Ground.phase }, { on := 3, ground := Ground.phase }, { on := 4, ground := Ground.phase }, { on := 5, ground := Ground.phase }, { on := 6, ground := Ground.phase }, { on := 7, ground := Ground.phase }, { on := 8, ground := Ground.phase }, { on := 9, ground := Ground.phase }, { on := 10, ground := Ground.phase }, { on := 11, ground := Ground.phase }, { on := 12, ground := Ground.phase }, { on := 13, ground := Ground.phase }], guard := none }) ?_ rfl (by kernel_rfl) (by kernel_rfl) (by kernel_rfl) (fun _ _ _ h => h) ?_ ?_ hHeld ?_; rotate_left; (focus rfl); (focus (intro wq hSq; obtain ⟨s0, s1, s2, s3⟩ := hSq; (first | (go_simp; done) | (go_simp; with_reducible rfl)))))
              try simp only [Act.put, List.setIfInBounds_toArray, List.set_cons_zero, List.set_cons_succ]
              refine wpAnyH_done (by kernel_rfl) ?_ _
              go_wp2_with fail
              go_meet
              first
                | exact ⟨_, Sr, Dr, nr, cr, mr, dr, rfl, rfl, H9.out.sub [0, 1, 2, 4, 5, 6, 7, 8, 9, 10, 11, 12, 13, 14, 15, 16, 17, 18, 19] rfl (by decide)⟩
                | exact ⟨_, Sr, Dr, nr, cr, mr, dr, rfl, rfl, H9.out.sub [2, 0, 1, 4, 5, 6, 7, 8, 9, 10, 11, 12, 13, 14, 15, 16, 17, 18, 19] rfl (by decide)⟩
                | exact ⟨_, Sr, Dr, nr, cr, mr, dr, rfl, rfl, H9.out.sub [3, 0, 1, 4, 5, 6, 7, 8, 9, 10, 11, 12, 13, 14, 15, 16, 17, 18, 19] rfl (by decide)⟩
            · (have H2 := Lib.hid (((H.out.lit 3 #[.int .i64 (m : Int)] [(m : Int)] 1 vx.heap.size rfl rfl (by simp [litOk]; omega)).allocBox (vx.heap.size + 1) 26 [.slice none 0 0, .slice none 0 0] (by simp)).drew); have cd0 := H2.out.cell 7 0 rfl rfl; have cd1 := H2.out.cell 7 1 rfl rfl; have cd2 := H2.out.cell 5 0 rfl rfl; have cd3 := H2.out.cell 5 1 rfl rfl)
              go_simp
              try go_wp2_with fail
              refine hK.out _ _ ?_ (fun hHeld2 => ?_)
              · first | assumption | (exact ⟨cd0, cd1, cd2, cd3⟩)
              clear hK K hHeld
              have hHeld := hHeld2; clear hHeld2
              try simp only [Act.put, List.setIfInBounds_toArray, List.set_cons_zero, List.set_cons_succ]
              refine wpAnyH_ready (rs := [8]) (by kernel_rfl) (by simp) ?_
              refine (AllReadyH.cons (o := { dst := some 122, op := Op.call { callee := Callee.value (Operand.func 14), args := #[Operand.tmp 120, Operand.tmp 121, Operand.const (Value.int IntKind.i64 0)], argTypes := #[26, 26, 3] }, type := 39, pos := "law.go:104", after := #[{ on := 6, ground := Ground.data }, { on := 7, ground := Ground.data }], guard := none }) rfl (fun K hK => ?_) AllReadyH.nil)
              first | (refine effU ?_ ?_; (focus rfl)) | (go_simp; (go_at_call 14; have CC := dtDo_any 0 (ten_mk (H2.out.ownInts 1 rfl).2.2 (Nat.le_refl 1) ((HP.out _ (H2.out.ownInts 17 rfl).2.2).take hmP) (Nat.le_trans hmP hleP)) (ten_mk (H2.out.ownInts 6 rfl).2.2 (Nat.le_refl 2) (HQ.out _ (H2.out.ownInts 15 rfl).2.2) hleQ); rw [E3.out] at CC; (with_reducible refine CC.mono ?_); rintro e8 x1 ⟨⟨u, rfl, hu⟩, hb⟩; obtain ⟨Sr, nr, cr, Dr, mr, dr, rfl, _, _, _, _, _, h8⟩ := H2.out.addTen hb hu; have H8 := Lib.hid h8; have cc0 := H8.out.cell 9 0 rfl rfl; have cc1 := H8.out.cell 9 1 rfl rfl; have cc2 := H8.out.cell 7 0 rfl rfl; have cc3 := H8.out.cell 7 1 rfl rfl; clear hu hb h8); go_wp2_with fail)
              refine hK.out _ _ ?_ (fun hHeld2 => ?_)
              · first | assumption | (exact ⟨cc0, cc1, cc2, cc3⟩)
              clear hK K hHeld
              have hHeld := hHeld2; clear hHeld2
              try simp only [Act.put, List.setIfInBounds_toArray, List.set_cons_zero, List.set_cons_succ]
              first | (refine takeU (i := 9) (oi := { dst := some 113, op := Op.move (Operand.tmp 122), type := 39, pos := "law.go:104", after := #[{ on := 8, ground := Ground.data }], guard := none }) rfl (by kernel_rfl) (by kernel_rfl) (by kernel_rfl) (fun _ _ _ h => h) ?_ hHeld ?_; (focus rfl)) | (refine takeW (i := 9) (oi := { dst := some 113, op := Op.move (Operand.tmp 122), type := 39, pos := "law.go:104", after := #[{ on := 8, ground := Ground.data }], guard := none }) ?_ rfl (by kernel_rfl) (by kernel_rfl) (by kernel_rfl) (fun _ _ _ h => h) ?_ ?_ hHeld ?_; rotate_left; (focus rfl); (focus (intro wq hSq; obtain ⟨s0, s1, s2, s3⟩ := hSq; (first | (go_simp; done) | (go_simp; with_reducible rfl)))))
              try simp only [Act.put, List.setIfInBounds_toArray, List.set_cons_zero, List.set_cons_succ]
              first | (refine takeU (i := 10) (oi := { dst := some 123, op := Op.extract (Operand.tmp 113) 0, type := 26, pos := "law.go:104", after := #[{ on := 9, ground := Ground.data }], guard := none }) rfl (by kernel_rfl) (by kernel_rfl) (by kernel_rfl) (fun _ _ _ h => h) ?_ hHeld ?_; (focus rfl)) | (refine takeW (i := 10) (oi := { dst := some 123, op := Op.extract (Operand.tmp 113) 0, type := 26, pos := "law.go:104", after := #[{ on := 9, ground := Ground.data }], guard := none }) ?_ rfl (by kernel_rfl) (by kernel_rfl) (by kernel_rfl) (fun _ _ _ h => h) ?_ ?_ hHeld ?_; rotate_left; (focus rfl); (focus (intro wq hSq; obtain ⟨s0, s1, s2, s3⟩ := hSq; (first | (go_simp; done) | (go_simp; with_reducible rfl)))))
              try simp only [Act.put, List.setIfInBounds_toArray, List.set_cons_zero, List.set_cons_succ]
              first | (refine takeU (i := 11) (oi := { dst := some 124, op := Op.extract (Operand.tmp 113) 1, type := 38, pos := "law.go:104", after := #[{ on := 9, ground := Ground.data }, { on := 13, ground := Ground.gcOnly Departure.lateStores }], guard := none }) rfl (by kernel_rfl) (by kernel_rfl) (by kernel_rfl) (fun _ _ _ h => h) ?_ hHeld ?_; (focus rfl)) | (refine takeW (i := 11) (oi := { dst := some 124, op := Op.extract (Operand.tmp 113) 1, type := 38, pos := "law.go:104", after := #[{ on := 9, ground := Ground.data }, { on := 13, ground := Ground.gcOnly Departure.lateStores }], guard := none }) ?_ rfl (by kernel_rfl) (by kernel_rfl) (by kernel_rfl) (fun _ _ _ h => h) ?_ ?_ hHeld ?_; rotate_left; (focus rfl); (focus (intro wq hSq; obtain ⟨s0, s1, s2, s3⟩ := hSq; (first | (go_simp; done) | (go_simp; with_reducible rfl)))))
              try simp only [Act.put, List.setIfInBounds_toArray, List.set_cons_zero, List.set_cons_succ]
              refine wpAnyH_ready (rs := [13]) (by kernel_rfl) (by simp) ?_
              refine (AllReadyH.cons (o := { dst := none, op := Op.store 26 (Operand.tmp 19) (Operand.tmp 123), type := 0, pos := "law.go:104", after := #[{ on := 12, ground := Ground.data }, { on := 10, ground := Ground.data }, { on := 8, ground := Ground.chain }, { on := 0, ground := Ground.phase }, { on := 1, ground := Ground.phase }, { on := 2, ground := Ground.phase }, { on := 3, ground := Ground.phase }, { on := 4, ground := Ground.phase }, { on := 5, ground := Ground.phase }, { on := 6, ground := Ground.phase }, { on := 7, ground := Ground.phase }, { on := 8, ground := Ground.phase }, { on := 9, ground := Ground.phase }, { on := 10, ground := Ground.phase }, { on := 11, ground := Ground.textOnly Departure.lateStores }, { on := 12, ground := Ground.phase }], guard := none }) rfl (fun K hK => ?_) AllReadyH.nil)
              (have f0 := H8.out.cell 2 0 rfl rfl; have f1 := H8.out.cell 2 1 rfl rfl; have f2 := H8.out.frozenBox 2 0 rfl; have f3 := H8.out.frozenBox 2 1 rfl; have H9 := Lib.hid ((H8.out.setBox 2 0 (.slice Sr nr cr) rfl).setBox 2 1 (.slice Dr mr dr) rfl); have ce0 := H9.out.cell 9 0 rfl rfl; have ce1 := H9.out.cell 9 1 rfl rfl; have ce2 := H9.out.cell 7 0 rfl rfl; have ce3 := H9.out.cell 7 1 rfl rfl)
              go_simp
              try go_wp2_with fail
              refine hK.out _ _ ?_ (fun hHeld2 => ?_)
              · first | assumption | (exact ⟨ce0, ce1, ce2, ce3⟩)
              clear hK K hHeld
              have hHeld := hHeld2; clear hHeld2
              try simp only [Act.put, List.setIfInBounds_toArray, List.set_cons_zero, List.set_cons_succ]
              first | (refine takeU (i := 14) (oi := { dst := some 20, op := Op.assign (Operand.tmp 124), type := 38, pos := "law.go:104", after := #[{ on := 11, ground := Ground.data }, { on := 13, ground := Ground.chain }, { on := 0, ground := Ground.phase }, { on := 1, ground := Ground.phase }, { on := 2, ground := Ground.phase }, { on := 3, ground := Ground.phase }, { on := 4, ground := Ground.phase }, { on := 5, ground := Ground.phase }, { on := 6, ground := Ground.phase }, { on := 7, ground := Ground.phase }, { on := 8, ground := Ground.phase }, { on := 9, ground := Ground.phase }, { on := 10, ground := Ground.phase }, { on := 11, ground := Ground.phase }, { on := 12, ground := Ground.phase }, { on := 13, ground := Ground.phase }], guard := none }) rfl (by kernel_rfl) (by kernel_rfl) (by kernel_rfl) (fun _ _ _ h => h) ?_ hHeld ?_; (focus rfl)) | (refine takeW (i := 14) (oi := { dst := some 20, op := Op.assign (Operand.tmp 124), type := 38, pos := "law.go:104", after := #[{ on := 11, ground := Ground.data }, { on := 13, ground := Ground.chain }, { on := 0, ground := Ground.phase }, { on := 1, ground := Ground.phase }, { on := 2, ground := Ground.phase }, { on := 3, ground := Ground.phase }, { on := 4, ground := Ground.phase }, { on := 5, ground := Ground.phase }, { on := 6, ground := Ground.phase }, { on := 7, ground := Ground.phase }, { on := 8, ground := Ground.phase }, { on := 9, ground := Ground.phase }, { on := 10, ground := Ground.phase }, { on := 11, ground := Ground.phase }, { on := 12, ground := Ground.phase }, { on := 13, ground := Ground.phase }], guard := none }) ?_ rfl (by kernel_rfl) (by kernel_rfl) (by kernel_rfl) (fun _ _ _ h => h) ?_ ?_ hHeld ?_; rotate_left; (focus rfl); (focus (intro wq hSq; obtain ⟨s0, s1, s2, s3⟩ := hSq; (first | (go_simp; done) | (go_simp; with_reducible rfl)))))
              try simp only [Act.put, List.setIfInBounds_toArray, List.set_cons_zero, List.set_cons_succ]
              refine wpAnyH_done (by kernel_rfl) ?_ _
              go_wp2_with fail
              go_meet
              first
                | exact ⟨_, Sr, Dr, nr, cr, mr, dr, rfl, rfl, H9.out.sub [0, 1, 2, 4, 5, 6, 7, 8, 9, 10, 11, 12, 13, 14, 15, 16, 17, 18, 19] rfl (by decide)⟩
                | exact ⟨_, Sr, Dr, nr, cr, mr, dr, rfl, rfl, H9.out.sub [2, 0, 1, 4, 5, 6, 7, 8, 9, 10, 11, 12, 13, 14, 15, 16, 17, 18, 19] rfl (by decide)⟩
                | exact ⟨_, Sr, Dr, nr, cr, mr, dr, rfl, rfl, H9.out.sub [3, 0, 1, 4, 5, 6, 7, 8, 9, 10, 11, 12, 13, 14, 15, 16, 17, 18, 19] rfl (by decide)⟩
          · (have H1 := Lib.hid ((H.out.allocBox vx.heap.size 26 [.slice none 0 0, .slice none 0 0] rfl).drew); have cb0 := H1.out.cell 6 0 rfl rfl; have cb1 := H1.out.cell 6 1 rfl rfl; have cb2 := H1.out.cell 4 0 rfl rfl; have cb3 := H1.out.cell 4 1 rfl rfl)
            go_simp
            try go_wp2_with fail
            refine hK.out _ _ ?_ (fun hHeld2 => ?_)
            · first | assumption | (exact ⟨cb0, cb1, cb2, cb3⟩)
            clear hK K hHeld
            have hHeld := hHeld2; clear hHeld2
            try simp only [Act.put, List.setIfInBounds_toArray, List.set_cons_zero, List.set_cons_succ]
            refine wpAnyH_ready (rs := [1]) (by kernel_rfl) (by simp) ?_
            refine (AllReadyH.cons (o := { dst := some 115, op := Op.buildSlice 22 1 #[(0, Operand.tmp 114)], type := 22, pos := "law.go:104", after := #[{ on := 0, ground := Ground.data }], guard := none }) rfl (fun K hK => ?_) AllReadyH.nil)
            (have H2 := Lib.hid (((H.out.allocBox vx.heap.size 26 [.slice none 0 0, .slice none 0 0] rfl).lit 3 #[.int .i64 (m : Int)] [(m : Int)] 1 (vx.heap.size + 1) (by simp) rfl (by simp [litOk]; omega)).drew); have cd0 := H2.out.cell 7 0 rfl rfl; have cd1 := H2.out.cell 7 1 rfl rfl; have cd2 := H2.out.cell 5 0 rfl rfl; have cd3 := H2.out.cell 5 1 rfl rfl)
            go_simp
            try go_wp2_with fail
            refine hK.out _ _ ?_ (fun hHeld2 => ?_)
            · first | assumption | (exact ⟨cd0, cd1, cd2, cd3⟩)
            clear hK K hHeld
            have hHeld := hHeld2; clear hHeld2
            try simp only [Act.put, List.setIfInBounds_toArray, List.set_cons_zero, List.set_cons_succ]
            first | (refine takeU (i := 6) (oi := { dst := some 120, op := Op.build 26 #[(0, Operand.tmp 115), (1, Operand.tmp 119)], type := 26, pos := "law.go:104", after := #[{ on := 1, ground := Ground.data }, { on := 5, ground := Ground.data }], guard := none }) rfl (by kernel_rfl) (by kernel_rfl) (by kernel_rfl) (fun _ _ _ h => h) ?_ hHeld ?_; (focus rfl)) | (refine takeW (i := 6) (oi := { dst := some 120, op := Op.build 26 #[(0, Operand.tmp 115), (1, Operand.tmp 119)], type := 26, pos := "law.go:104", after := #[{ on := 1, ground := Ground.data }, { on := 5, ground := Ground.data }], guard := none }) ?_ rfl (by kernel_rfl) (by kernel_rfl) (by kernel_rfl) (fun _ _ _ h => h) ?_ ?_ hHeld ?_; rotate_left; (focus rfl); (focus (intro wq hSq; obtain ⟨s0, s1, s2, s3⟩ := hSq; (first | (go_simp; done) | (go_simp; with_reducible rfl)))))
            try simp only [Act.put, List.setIfInBounds_toArray, List.set_cons_zero, List.set_cons_succ]
            refine wpAnyH_ready (rs := [8]) (by kernel_rfl) (by simp) ?_
            refine (AllReadyH.cons (o := { dst := some 122, op := Op.call { callee := Callee.value (Operand.func 14), args := #[Operand.tmp 120, Operand.tmp 121, Operand.const (Value.int IntKind.i64 0)], argTypes := #[26, 26, 3] }, type := 39, pos := "law.go:104", after := #[{ on := 6, ground := Ground.data }, { on := 7, ground := Ground.data }], guard := none }) rfl (fun K hK => ?_) AllReadyH.nil)
            first | (refine effU ?_ ?_; (focus rfl)) | (go_simp; (go_at_call 14; have CC := dtDo_any 0 (ten_mk (H2.out.ownInts 0 rfl).2.2 (Nat.le_refl 1) ((HP.out _ (H2.out.ownInts 17 rfl).2.2).take hmP) (Nat.le_trans hmP hleP)) (ten_mk (H2.out.ownInts 6 rfl).2.2 (Nat.le_refl 2) (HQ.out _ (H2.out.ownInts 15 rfl).2.2) hleQ); rw [E3.out] at CC; (with_reducible refine CC.mono ?_); rintro e8 x1 ⟨⟨u, rfl, hu⟩, hb⟩; obtain ⟨Sr, nr, cr, Dr, mr, dr, rfl, _, _, _, _, _, h8⟩ := H2.out.addTen hb hu; have H8 := Lib.hid h8; have cc0 := H8.out.cell 9 0 rfl rfl; have cc1 := H8.out.cell 9 1 rfl rfl; have cc2 := H8.out.cell 7 0 rfl rfl; have cc3 := H8.out.cell 7 1 rfl rfl; clear hu hb h8); go_wp2_with fail)
            refine hK.out _ _ ?_ (fun hHeld2 => ?_)
            · first | assumption | (exact ⟨cc0, cc1, cc2, cc3⟩)
            clear hK K hHeld
            have hHeld := hHeld2; clear hHeld2
            try simp only [Act.put, List.setIfInBounds_toArray, List.set_cons_zero, List.set_cons_succ]
            first | (refine takeU (i := 9) (oi := { dst := some 113, op := Op.move (Operand.tmp 122), type := 39, pos := "law.go:104", after := #[{ on := 8, ground := Ground.data }], guard := none }) rfl (by kernel_rfl) (by kernel_rfl) (by kernel_rfl) (fun _ _ _ h => h) ?_ hHeld ?_; (focus rfl)) | (refine takeW (i := 9) (oi := { dst := some 113, op := Op.move (Operand.tmp 122), type := 39, pos := "law.go:104", after := #[{ on := 8, ground := Ground.data }], guard := none }) ?_ rfl (by kernel_rfl) (by kernel_rfl) (by kernel_rfl) (fun _ _ _ h => h) ?_ ?_ hHeld ?_; rotate_left; (focus rfl); (focus (intro wq hSq; obtain ⟨s0, s1, s2, s3⟩ := hSq; (first | (go_simp; done) | (go_simp; with_reducible rfl)))))
            try simp only [Act.put, List.setIfInBounds_toArray, List.set_cons_zero, List.set_cons_succ]
            first | (refine takeU (i := 10) (oi := { dst := some 123, op := Op.extract (Operand.tmp 113) 0, type := 26, pos := "law.go:104", after := #[{ on := 9, ground := Ground.data }], guard := none }) rfl (by kernel_rfl) (by kernel_rfl) (by kernel_rfl) (fun _ _ _ h => h) ?_ hHeld ?_; (focus rfl)) | (refine takeW (i := 10) (oi := { dst := some 123, op := Op.extract (Operand.tmp 113) 0, type := 26, pos := "law.go:104", after := #[{ on := 9, ground := Ground.data }], guard := none }) ?_ rfl (by kernel_rfl) (by kernel_rfl) (by kernel_rfl) (fun _ _ _ h => h) ?_ ?_ hHeld ?_; rotate_left; (focus rfl); (focus (intro wq hSq; obtain ⟨s0, s1, s2, s3⟩ := hSq; (first | (go_simp; done) | (go_simp; with_reducible rfl)))))
            try simp only [Act.put, List.setIfInBounds_toArray, List.set_cons_zero, List.set_cons_succ]
            first | (refine takeU (i := 11) (oi := { dst := some 124, op := Op.extract (Operand.tmp 113) 1, type := 38, pos := "law.go:104", after := #[{ on := 9, ground := Ground.data }, { on := 13, ground := Ground.gcOnly Departure.lateStores }], guard := none }) rfl (by kernel_rfl) (by kernel_rfl) (by kernel_rfl) (fun _ _ _ h => h) ?_ hHeld ?_; (focus rfl)) | (refine takeW (i := 11) (oi := { dst := some 124, op := Op.extract (Operand.tmp 113) 1, type := 38, pos := "law.go:104", after := #[{ on := 9, ground := Ground.data }, { on := 13, ground := Ground.gcOnly Departure.lateStores }], guard := none }) ?_ rfl (by kernel_rfl) (by kernel_rfl) (by kernel_rfl) (fun _ _ _ h => h) ?_ ?_ hHeld ?_; rotate_left; (focus rfl); (focus (intro wq hSq; obtain ⟨s0, s1, s2, s3⟩ := hSq; (first | (go_simp; done) | (go_simp; with_reducible rfl)))))
            try simp only [Act.put, List.setIfInBounds_toArray, List.set_cons_zero, List.set_cons_succ]
            refine wpAnyH_ready (rs := [13]) (by kernel_rfl) (by simp) ?_
            refine (AllReadyH.cons (o := { dst := none, op := Op.store 26 (Operand.tmp 19) (Operand.tmp 123), type := 0, pos := "law.go:104", after := #[{ on := 12, ground := Ground.data }, { on := 10, ground := Ground.data }, { on := 8, ground := Ground.chain }, { on := 0, ground := Ground.phase }, { on := 1, ground := Ground.phase }, { on := 2, ground := Ground.phase }, { on := 3, ground := Ground.phase }, { on := 4, ground := Ground.phase }, { on := 5, ground := Ground.phase }, { on := 6, ground := Ground.phase }, { on := 7, ground := Ground.phase }, { on := 8, ground := Ground.phase }, { on := 9, ground := Ground.phase }, { on := 10, ground := Ground.phase }, { on := 11, ground := Ground.textOnly Departure.lateStores }, { on := 12, ground := Ground.phase }], guard := none }) rfl (fun K hK => ?_) AllReadyH.nil)
            (have f0 := H8.out.cell 3 0 rfl rfl; have f1 := H8.out.cell 3 1 rfl rfl; have f2 := H8.out.frozenBox 3 0 rfl; have f3 := H8.out.frozenBox 3 1 rfl; have H9 := Lib.hid ((H8.out.setBox 3 0 (.slice Sr nr cr) rfl).setBox 3 1 (.slice Dr mr dr) rfl); have ce0 := H9.out.cell 9 0 rfl rfl; have ce1 := H9.out.cell 9 1 rfl rfl; have ce2 := H9.out.cell 7 0 rfl rfl; have ce3 := H9.out.cell 7 1 rfl rfl)
            go_simp
            try go_wp2_with fail
            refine hK.out _ _ ?_ (fun hHeld2 => ?_)
            · first | assumption | (exact ⟨ce0, ce1, ce2, ce3⟩)
            clear hK K hHeld
            have hHeld := hHeld2; clear hHeld2
            try simp only [Act.put, List.setIfInBounds_toArray, List.set_cons_zero, List.set_cons_succ]
            first | (refine takeU (i := 14) (oi := { dst := some 20, op := Op.assign (Operand.tmp 124), type := 38, pos := "law.go:104", after := #[{ on := 11, ground := Ground.data }, { on := 13, ground := Ground.chain }, { on := 0, ground := Ground.phase }, { on := 1, ground := Ground.phase }, { on := 2, ground := Ground.phase }, { on := 3, ground := Ground.phase }, { on := 4, ground := Ground.phase }, { on := 5, ground := Ground.phase }, { on := 6, ground := Ground.phase }, { on := 7, ground := Ground.phase }, { on := 8, ground := Ground.phase }, { on := 9, ground := Ground.phase }, { on := 10, ground := Ground.phase }, { on := 11, ground := Ground.phase }, { on := 12, ground := Ground.phase }, { on := 13, ground := Ground.phase }], guard := none }) rfl (by kernel_rfl) (by kernel_rfl) (by kernel_rfl) (fun _ _ _ h => h) ?_ hHeld ?_; (focus rfl)) | (refine takeW (i := 14) (oi := { dst := some 20, op := Op.assign (Operand.tmp 124), type := 38, pos := "law.go:104", after := #[{ on := 11, ground := Ground.data }, { on := 13, ground := Ground.chain }, { on := 0, ground := Ground.phase }, { on := 1, ground := Ground.phase }, { on := 2, ground := Ground.phase }, { on := 3, ground := Ground.phase }, { on := 4, ground := Ground.phase }, { on := 5, ground := Ground.phase }, { on := 6, ground := Ground.phase }, { on := 7, ground := Ground.phase }, { on := 8, ground := Ground.phase }, { on := 9, ground := Ground.phase }, { on := 10, ground := Ground.phase }, { on := 11, ground := Ground.phase }, { on := 12, ground := Ground.phase }, { on := 13, ground := Ground.phase }], guard := none }) ?_ rfl (by kernel_rfl) (by kernel_rfl) (by kernel_rfl) (fun _ _ _ h => h) ?_ ?_ hHeld ?_; rotate_left; (focus rfl); (focus (intro wq hSq; obtain ⟨s0, s1, s2, s3⟩ := hSq; (first | (go_simp; done) | (go_simp; with_reducible rfl)))))
            try simp only [Act.put, List.setIfInBounds_toArray, List.set_cons_zero, List.set_cons_succ]
            refine wpAnyH_done (by kernel_rfl) ?_ _
            go_wp2_with fail
            go_meet
            first
              | exact ⟨_, Sr, Dr, nr, cr, mr, dr, rfl, rfl, H9.out.sub [0, 1, 2, 4, 5, 6, 7, 8, 9, 10, 11, 12, 13, 14, 15, 16, 17, 18, 19] rfl (by decide)⟩
              | exact ⟨_, Sr, Dr, nr, cr, mr, dr, rfl, rfl, H9.out.sub [2, 0, 1, 4, 5, 6, 7, 8, 9, 10, 11, 12, 13, 14, 15, 16, 17, 18, 19] rfl (by decide)⟩
              | exact ⟨_, Sr, Dr, nr, cr, mr, dr, rfl, rfl, H9.out.sub [3, 0, 1, 4, 5, 6, 7, 8, 9, 10, 11, 12, 13, 14, 15, 16, 17, 18, 19] rfl (by decide)⟩
        case rest =>
          obtain ⟨gr, Sr, Dr, nr, cr, mr, dr, rfl, rfl, hS⟩ := hcut
          clear H
          have H := Lib.hid hS
          clear hS
          have hmr := (H.out.ownInts 2 rfl).2.2.len
          rw [List.length_take, List.length_take] at hmr
          have hmr2 : 3 = mr := by have := (H.out.ownInts 5 rfl).2.2.len; rw [List.length_take] at this; omega
          subst hmr2
          clear hmr
          have r0 := H.out.cell 0 0 rfl rfl
          have r1 := H.out.cell 0 1 rfl rfl
          have w0 := H.out.cell 3 0 rfl rfl
          have w1 := H.out.cell 3 1 rfl rfl
          have hs3 := run_pre64 (A := ⟨gwd, 0, none⟩) (n := 6) (c := dw_) (hi := 3) (by omega) ((H.out.ownInts 5 rfl).2.1)
          have CS := Lib.hid (fun q => bookSame64_eq (w := wc.drewN q) (c := dr) (d := dw_) ((H.out.drewN q).ownInts 2 rfl).2.2 (((H.out.drewN q).ownInts 5 rfl).2.2.take (k := 3) (by omega)))
          go_upto_region 16 with fail
          go_quiet ((go_at_call 19; with_reducible exact (CS.out _).mono fun _ _ ⟨e, q, h⟩ => ⟨e, _, h.trans (World.drewN_drewN _ _ _)⟩))
          go_wp2
          go_roundw
          case rel => exact ⟨k1, rfl, by have := HK1.out; omega, (H.out.drewN _).sub [10, 11, 12, 13, 14, 15, 16, 17, 18] rfl (by decide)⟩
          case measure => simp [intOf]; have := HK1.out; omega
      · have hin : x = k0 := by omega
        have HIN := Lib.hid hin
        clear hin
        have hd3 : decide (k0 < x) = false := by simpa using hlt
        go_wp2_with fail
        refine (l7known_any _).mono ?_; rintro e9 w9 ⟨rfl, hb⟩
        replace H := Lib.hid (H.out.below hb)
        clear hb
        go_wp2
        go_ret
        exact ⟨rfl, H.out.base⟩
end Go.Proofs.Ytihjobpdphljiaa
