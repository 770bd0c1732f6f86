/- The walk of the law WindowCounts. -/
import Derived.Test.YtiigbkjkmfjhcaaL8Same
import Derived.Test.YtiigbkjkmfjhcaaWnB
import Derived.Test.YtiigbkjkmfjhcaaSepC
import Derived.Test.YtiigbkjkmfjhcaaKitReg
import Derived.Test.YtiigbkjkmfjhcaaBox
namespace Go.Proofs.Ytiigbkjkmfjhcaa
open Go.RowKit

set_option maxRecDepth 100000 in
set_option maxHeartbeats 12800000 in
theorem wcounts_walk {w : World} {A0 : Option Addr} {n0 c0 : Nat} {x0 : List Int} (wide apart : Int) (h0 : Ints w A0 n0 x0) :
    Calls Try.prog 6 #[.slice A0 n0 c0, .int .i64 wide, .int .i64 apart] w fun e w' => e = .returned (.bool true) ∧ Below w.heap.size w w' := by
  have q0 := Below.refl w.heap.size w
  have hT := tape_new (c := c0) (h0.below q0)
  have hz1 : (w).heap.size = w.heap.size := by simp
  skip
  have s1 := Sep.startTape hz1 hT
  clear hT
  go_enter Try.func6, Try.ntmps6
  go_upto_region 2 with fail
  generalize (w).alloc (.cells #[.slice A0 n0 c0, .int .i64 0] 33) = v at *
  have HQ := Lib.hid q0
  have HZ1 := Lib.hid hz1
  have H := Lib.hid s1
  skip
  clear s1 hz1 q0 h0
  go_cut [8, 9, 10] (fun q1 q2 q3 wx => ∃ n wd a : Nat, q1 = .int .i64 (n : Int) ∧ q2 = .int .i64 (wd : Int) ∧ q3 = .int .i64 (a : Int) ∧ (1 ≤ n ∧ n ≤ 20) ∧ (1 ≤ wd ∧ wd ≤ 4) ∧ (1 ≤ a ∧ a ≤ 4) ∧ Sep w wx [.tape w.heap.size])
  case first =>
    go_wp2_with fail
    refine (next_any 20 (H.out.tape 0 rfl) ⟨by omega, by omega⟩).mono ?_; rintro e5 w5 ⟨⟨r, rfl, hr0, hr1⟩, hR⟩
    replace H := Lib.hid (H.out.read 0 rfl hR)
    clear hR
    have hwn : IntKind.i64.wrap (1 + r) = 1 + r := IntWalk.i64_in _ ⟨by omega, by omega⟩
    have e0 := and3 wide
    have q0a := Int.emod_nonneg wide (b := 4) (by omega)
    have q0b := Int.emod_lt_of_pos wide (b := 4) (by omega)
    have e1 := and3 apart
    have q1a := Int.emod_nonneg apart (b := 4) (by omega)
    have q1b := Int.emod_lt_of_pos apart (b := 4) (by omega)
    go_wp2_with fail
    go_meet
    exact ⟨(1 + r).toNat, (1 + wide % 4).toNat, (1 + apart % 4).toNat, by rw [Int.toNat_of_nonneg (by omega)], by rw [Int.toNat_of_nonneg (by omega)], by rw [Int.toNat_of_nonneg (by omega)], by omega, by omega, by omega, H.out⟩
  case rest =>
    obtain ⟨n, wd, a, rfl, rfl, rfl, hn, hwd, ha, hS⟩ := hcut
    clear H
    have H := Lib.hid hS
    clear hS
    replace H := Lib.hid (H.out.lit 3 #[.int .i64 (n : Int), .int .i64 2] [(n : Int), 2] 2 wc.heap.size rfl rfl (by simp [litOk]; omega))
    have C0 := tapeTensor_any (c := 2) (H.out.tape 1 rfl) ((H.out.ownInts 0 rfl).2.2) (by omega)
    go_wp2_with fail
    refine C0.mono ?_; rintro e0 w0 ⟨⟨v3, dt, rfl, hOT, hdl⟩, hR⟩
    obtain ⟨vs, vd, nt, mt, rfl, ho1, ho2⟩ := hOT
    obtain ⟨St, kt, rfl, _, _, _⟩ := ho1.form
    obtain ⟨Dt, jt, rfl, _, _, _⟩ := ho2.form
    have Lt := Lib.hid (show dt.length = 2 * n by rw [hdl, size_cols (by omega), Int.toNat_natCast])
    have h5 := H.out.readOwn2 1 rfl hR ho1 ho2 (Ne.symm ty_ne.1)
    have h6 := h5.allocBox w0.heap.size 27 [.slice St nt kt, .slice Dt mt jt] rfl
    clear C0 ho1 ho2 hR hdl h5
    go_upto_region 4 with fail
    generalize w0.alloc (.cells #[.slice St nt kt, .slice Dt mt jt] 27) = vt at *
    generalize w0.heap.size = gt at *
    replace H := Lib.hid h6
    clear h6
    obtain ⟨K, hK, hKn⟩ := winN_nat (n := n) (w := (wd : Int)) (a := (a : Int))
    obtain ⟨M, hM, hMn⟩ := winN_nat (n := n) (w := (wd : Int)) (a := 1)
    have Rt := Lib.hid (fun (d : List Int) (hl : d.length = 2 * n) => show tenRight [(n : Int), 2] d = true by simp only [tenRight, right_cols hn.2, Bool.true_and, decide_eq_true_eq, size_cols hn.2]; omega)
    have E1 := Lib.hid (show winR 1 [(n : Int), 2] (List.replicate (2 * n) 1) 0 (wd : Int) (a : Int) = (0, winS [(n : Int), 2] 0 (wd : Int) (a : Int), winD 1 [(n : Int), 2] (List.replicate (2 * n) 1) 0 (wd : Int) (a : Int)) from winR_ok (ax := 0) (by rw [Bool.and_eq_true, winOk_iff]; exact ⟨rfl, by omega, by omega, by omega, by omega⟩) (Rt.out _ (List.length_replicate ..)) (by simp))
    have E2 := Lib.hid (show winR 1 [(n : Int), 2] (dt) 0 (wd : Int) 1 = (0, winS [(n : Int), 2] 0 (wd : Int) 1, winD 1 [(n : Int), 2] (dt) 0 (wd : Int) 1) from winR_ok (ax := 0) (by rw [Bool.and_eq_true, winOk_iff]; exact ⟨rfl, by omega, by omega, by omega, by omega⟩) (Rt.out _ Lt.out) (by simp))
    have E3 := Lib.hid (show winR 1 [(n : Int), 2] (dt) 0 (wd : Int) (a : Int) = (0, winS [(n : Int), 2] 0 (wd : Int) (a : Int), winD 1 [(n : Int), 2] (dt) 0 (wd : Int) (a : Int)) from winR_ok (ax := 0) (by rw [Bool.and_eq_true, winOk_iff]; exact ⟨rfl, by omega, by omega, by omega, by omega⟩) (Rt.out _ Lt.out) (by simp))
    have L1 := Lib.hid (show (winD 1 [(n : Int), 2] (List.replicate (2 * n) 1) 0 (wd : Int) (a : Int)).length = 2 * K by rw [winD_cols hn.2 hK hKn, gen_length])
    have L2 := Lib.hid (show (winD 1 [(n : Int), 2] dt 0 (wd : Int) 1).length = 2 * M by rw [winD_cols (a := 1) hn.2 hM hMn, gen_length])
    have L3 := Lib.hid (show (winD 1 [(n : Int), 2] dt 0 (wd : Int) (a : Int)).length = 2 * K by rw [winD_cols hn.2 hK hKn, gen_length])
    have HO := Lib.hid (fun (i : Nat) (hi : i < 2 * K) => cols_ones (w := (wd : Int)) hn.2 hK hKn (by omega) (by omega) (by omega) hi)
    have HPK := Lib.hid (fun (r c : Nat) (hr : r < K) (hc : c < 2) => cols_pick (w := (wd : Int)) (a := a) hn.2 hK hKn hM hMn ha.1 dt hr hc)
    have HK := Lib.hid hK
    have HM := Lib.hid hM
    clear hK hM
    replace H := Lib.hid (H.out.lit 3 #[.int .i64 (n : Int), .int .i64 2] [(n : Int), 2] 2 vt.heap.size rfl rfl (by simp [litOk]; omega))
    go_wp2_with fail
    refine (refFill_any 1 ((H.out.ownInts 0 rfl).2.2) (by omega) ⟨by omega, by omega⟩).mono ?_; rintro e9 w9 ⟨⟨u, rfl, hu⟩, hb⟩
    obtain ⟨Sf, nf, cf, Df, mf, df_, rfl, _, _, hfc, hfd, _, h5⟩ := H.out.addTen hb hu
    rw [size_cols hn.2, Int.toNat_natCast] at h5
    replace H := Lib.hid h5
    clear hu hb h5
    have C1 := wdDo_any 1 0 (wd : Int) (a : Int) (ten_mk (H.out.ownInts 0 rfl).2.2 (H.out.ownInts 0 rfl).2.1 (H.out.ownInts 1 rfl).2.2 (H.out.ownInts 1 rfl).2.1)
    rw [E1.out] at C1
    go_wp2_with fail
    refine C1.mono ?_; rintro e1 w1 ⟨⟨u, rfl, hu⟩, hb⟩
    obtain ⟨So, no, co, Do, mo, do_, rfl, _, hd, _, _, _, h5⟩ := H.out.addTen hb hu
    have Mo := Lib.hid hd
    have h6 := h5.allocBox w1.heap.size 27 [.slice So no co, .slice Do mo do_] rfl
    clear C1 hu hb h5 hd 
    go_upto_region 5 with fail
    generalize w1.alloc (.cells #[.slice So no co, .slice Do mo do_] 27) = vo at *
    generalize w1.heap.size = go at *
    replace H := Lib.hid h6
    clear h6
    have t0 := H.out.cell 6 0 rfl rfl
    have t1 := H.out.cell 6 1 rfl rfl
    have C2 := wdDo_any 1 0 (wd : Int) 1 (ten_mk (H.out.ownInts 7 rfl).2.2 (H.out.ownInts 7 rfl).2.1 (H.out.ownInts 8 rfl).2.2 (H.out.ownInts 8 rfl).2.1)
    rw [E2.out] at C2
    go_wp2_with fail
    refine C2.mono ?_; rintro e2 w2 ⟨⟨u, rfl, hu⟩, hb⟩
    obtain ⟨Sa, na, ca, Da, ma, da_, rfl, _, hd, _, _, _, h5⟩ := H.out.addTen hb hu
    have Ma := Lib.hid hd
    have h6 := h5.allocBox w2.heap.size 27 [.slice Sa na ca, .slice Da ma da_] rfl
    clear C2 hu hb h5 hd t0 t1
    go_upto_region 6 with fail
    generalize w2.alloc (.cells #[.slice Sa na ca, .slice Da ma da_] 27) = va at *
    generalize w2.heap.size = ga at *
    replace H := Lib.hid h6
    clear h6
    have t0 := H.out.cell 9 0 rfl rfl
    have t1 := H.out.cell 9 1 rfl rfl
    have C3 := wdDo_any 1 0 (wd : Int) (a : Int) (ten_mk (H.out.ownInts 10 rfl).2.2 (H.out.ownInts 10 rfl).2.1 (H.out.ownInts 11 rfl).2.2 (H.out.ownInts 11 rfl).2.1)
    rw [E3.out] at C3
    go_wp2_with fail
    refine C3.mono ?_; rintro e3 w3 ⟨⟨u, rfl, hu⟩, hb⟩
    obtain ⟨Sb, nb, cb, Db, mb, db_, rfl, _, hd, _, _, _, h5⟩ := H.out.addTen hb hu
    have Mb := Lib.hid hd
    have h6 := h5.allocBox w3.heap.size 27 [.slice Sb nb cb, .slice Db mb db_] rfl
    clear C3 hu hb h5 hd t0 t1
    go_upto_region 7 with fail
    generalize w3.alloc (.cells #[.slice Sb nb cb, .slice Db mb db_] 27) = vb at *
    generalize w3.heap.size = gb at *
    replace H := Lib.hid h6
    clear h6
    have CO := fun w => wdOut_any (n : Int) (wd : Int) (a : Int) ⟨by omega, by omega⟩ ⟨by omega, by omega⟩ ⟨by omega, by omega⟩ w
    simp only [HK.out] at CO
    have CP := fun w => wdOut_any (n : Int) (wd : Int) 1 ⟨by omega, by omega⟩ ⟨by omega, by omega⟩ ⟨by omega, by omega⟩ w
    simp only [HM.out] at CP
    go_wp2_with fail
    refine (CO _).mono ?_; rintro e9 w9 ⟨rfl, rfl⟩
    clear CO
    obtain ⟨K2, hK2⟩ : ∃ r, 2 * K = r := ⟨_, rfl⟩
    obtain ⟨M2, hM2⟩ : ∃ r, 2 * M = r := ⟨_, rfl⟩
    obtain rfl : K2 = mo := by rw [← hK2]; exact L1.out.symm.trans Mo.out
    obtain rfl : M2 = ma := by rw [← hM2]; exact L2.out.symm.trans Ma.out
    obtain rfl : K2 = mb := by rw [← hK2]; exact L3.out.symm.trans Mb.out
    have hwa : IntKind.i64.wrap (2 * (K : Int)) = (K2 : Int) := by rw [show 2 * (K : Int) = (K2 : Int) by omega]; exact IntWalk.i64_in _ ⟨by omega, by omega⟩
    have hwb : IntKind.i64.wrap (2 * (M : Int)) = (M2 : Int) := by rw [show 2 * (M : Int) = (M2 : Int) by omega]; exact IntWalk.i64_in _ ⟨by omega, by omega⟩
    have dK : ((K2 : Int) != (K2 : Int)) = false := by simp
    have dM : ((M2 : Int) != (M2 : Int)) = false := by simp
    have HK2 := Lib.hid hK2
    have HM2 := Lib.hid hM2
    have hKb : K2 ≤ 40 := by omega
    clear hK2 hM2
    have zo0 := H.out.cell 6 0 rfl rfl
    have zo1 := H.out.cell 6 1 rfl rfl
    have za0 := H.out.cell 3 0 rfl rfl
    have za1 := H.out.cell 3 1 rfl rfl
    have zb0 := H.out.cell 0 0 rfl rfl
    have zb1 := H.out.cell 0 1 rfl rfl
    go_upto_region 8 with fail
    have CPH := Lib.hid (fun q => CP (vb.drewN q))
    go_quiet ((go_at_call 7; with_reducible exact quietS (CPH.out _)))
    have HD := Lib.hid (H.out.drewN nq)
    go_wp2_with fail
    replace H := HD
    clear HD CP CPH zo0 zo1 za0 za1 zb0 zb1
    generalize vb.drewN nq = vq at *
    go_loopw [19] (fun tv wr => ∃ r : Nat, tv = .int .i64 (r : Int) ∧ r ≤ K ∧ ∃ q, wr = vq.drewN q) (fun tv _ => K - (intOf tv).toNat)
    case atStart => exact ⟨0, rfl, by omega, 0, rfl⟩
    case round =>
      obtain ⟨r, rfl, hr, q, rfl⟩ := hrel
      by_cases hrl : r < K
      · have hd1 : decide (r < K) = true := by simpa using hrl
        obtain ⟨w1, hw1⟩ : ∃ w1 : World, w1 = vq.drewN q := ⟨_, rfl⟩
        have H1 := Lib.hid (show Sep w w1 _ from hw1 ▸ H.out.drewN q)
        rw [← hw1]
        have HW1 := Lib.hid hw1
        clear hw1
        go_wp2_with fail
        go_loopw [20] (fun tv wr => ∃ c : Nat, tv = .int .i64 (c : Int) ∧ c ≤ 2 ∧ ∃ q, wr = w1.drewN q) (fun tv _ => 2 - (intOf tv).toNat)
        case atStart => exact ⟨0, rfl, by omega, 0, rfl⟩
        case round =>
          obtain ⟨c, rfl, hc, q2, rfl⟩ := hrel
          by_cases hcl : c < 2
          · have hd2 : decide ((c : Int) < 2) = true := by simp; omega
            obtain ⟨hb1, hb2⟩ := HPK.out r c hrl hcl
            have hb3 := HO.out (2 * r + c) (by omega)
            obtain ⟨p1, hp1⟩ : ∃ zz, 2 * r = zz := ⟨_, rfl⟩
            obtain ⟨p2, hp2⟩ : ∃ zz, p1 * a = zz := ⟨_, rfl⟩
            obtain ⟨p3, hp3⟩ : ∃ zz, p2 + c = zz := ⟨_, rfl⟩
            obtain ⟨p4, hp4⟩ : ∃ zz, p1 + c = zz := ⟨_, rfl⟩
            rw [hp1, hp2, hp3] at hb1
            rw [hp1, hp2, hp3, hp4] at hb2
            rw [hp1, hp4] at hb3
            have hp24 : p2 ≤ 40 := by have := HM2.out; omega
            have hp1b : p1 ≤ 40 := by have := HK2.out; omega
            have hwc : IntKind.i64.wrap (2 * (r : Int)) = (p1 : Int) := by rw [show 2 * (r : Int) = (p1 : Int) by omega]; exact IntWalk.i64_in _ ⟨by omega, by omega⟩
            have hwd2 : IntKind.i64.wrap ((p1 : Int) * (a : Int)) = (p2 : Int) := by rw [← Int.natCast_mul, hp2]; exact IntWalk.i64_in _ ⟨by omega, by omega⟩
            have hwe : IntKind.i64.wrap ((p2 : Int) + (c : Int)) = (p3 : Int) := by rw [show (p2 : Int) + (c : Int) = (p3 : Int) by omega]; exact IntWalk.i64_in _ ⟨by omega, by omega⟩
            have hwf : IntKind.i64.wrap ((p1 : Int) + (c : Int)) = (p4 : Int) := by rw [show (p1 : Int) + (c : Int) = (p4 : Int) by omega]; exact IntWalk.i64_in _ ⟨by omega, by omega⟩
            have h4K : p4 < K2 := by have := HK2.out; omega
            have h3M : p3 < M2 := by have := HM2.out; omega
            have I1 := (H1.out.ownInts 8 rfl).2.2
            have I2 := (H1.out.ownInts 5 rfl).2.2
            have I3 := (H1.out.ownInts 2 rfl).2.2
            obtain ⟨oa, xo, ho, _, ho1, hco, _⟩ := I1.at_ (k := p4) h4K
            obtain ⟨aa, xa, ha2, _, ha1, hca, _⟩ := I2.at_ (k := p3) h3M
            obtain ⟨ba, xb, hb4, _, hb5, hcb, _⟩ := I3.at_ (k := p4) h4K
            obtain rfl : (wd : Int) = xo := by rw [hb3] at ho1; injection ho1
            obtain rfl : xa = xb := by rw [hb5, ha1] at hb2; injection hb2 with hb2; exact hb2.symm
            clear ho1 ha1 hb5 hb2 hb3 I1 I2 I3 hp1 hp2 hp3 hp4 hb1
            subst ho
            subst ha2
            subst hb4
            have dge : decide (M2 ≤ p3) = false := by simp; omega
            have dw : ((wd : Int) != (wd : Int)) = false := by simp
            have dx : (xa != xa) = false := by simp
            have zo0 := H1.out.cell 6 0 rfl rfl
            have zo1 := H1.out.cell 6 1 rfl rfl
            have za0 := H1.out.cell 3 0 rfl rfl
            have za1 := H1.out.cell 3 1 rfl rfl
            have zb0 := H1.out.cell 0 0 rfl rfl
            have zb1 := H1.out.cell 0 1 rfl rfl
            go_upto_region 16 with fail
            go_quiet (fail)
            go_wp2
            go_roundw
            case rel => exact ⟨c + 1, by go_num, by omega, _, rfl⟩
            case measure => simp [intOf]; omega
          · have hd2 : decide ((c : Int) < 2) = false := by simp; omega
            go_wp2
            go_roundw
            case rel => exact ⟨r + 1, by go_num, by omega, q + q2, by rw [HW1.out, World.drewN_drewN]⟩
            case measure => simp [intOf]; omega
      · have hd1 : decide (r < K) = false := by simpa using hrl
        replace H := Lib.hid (H.out.drewN q)
        generalize vq.drewN q = vz at *
        go_wp2_with fail
        refine (l8known_any _).mono ?_; rintro e9 w9 ⟨rfl, hb⟩
        replace H := Lib.hid (H.out.below hb)
        clear hb
        go_wp2
        go_ret
        exact ⟨rfl, H.out.base⟩
end Go.Proofs.Ytiigbkjkmfjhcaa
