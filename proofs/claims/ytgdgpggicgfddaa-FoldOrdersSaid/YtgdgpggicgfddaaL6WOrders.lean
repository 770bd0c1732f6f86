/- The walk of the law FoldOrders. -/
import Derived.Test.YtgdgpggicgfddaaL6Same
import Derived.Test.YtgdgpggicgfddaaFdB
import Derived.Test.YtgdgpggicgfddaaAxK
import Derived.Test.YtgdgpggicgfddaaRef5C
import Derived.Test.YtgdgpggicgfddaaSepC
import Derived.Test.YtgdgpggicgfddaaKitReg
import Derived.Test.YtgdgpggicgfddaaBox
namespace Go.Proofs.Ytgdgpggicgfddaa
open Go.RowKit

theorem rises_all : Rises [0, 1, 2] 3 := by
  intro k x hx
  match k with
  | 0 => simp at hx; subst hx; exact ⟨by omega, by omega, fun z hz => by omega⟩
  | 1 => simp at hx; subst hx; exact ⟨by omega, by omega, fun z _ hz => by simp at hz; omega⟩
  | 2 => simp at hx; subst hx; exact ⟨by omega, by omega, fun z _ hz => by simp at hz; omega⟩
  | k + 3 => simp at hx
theorem rises_mid : Rises [1] 3 := by
  intro k x hx
  cases k with
  | zero => simp at hx; subst hx; exact ⟨by omega, by omega, fun z hz => by omega⟩
  | succ k => simp at hx
theorem rises_nil (n : Nat) : Rises [] n := fun k x hx => by simp at hx
set_option maxRecDepth 100000 in
set_option maxHeartbeats 12800000 in
theorem forders_walk {w : World} {A0 : Option Addr} {n0 c0 : Nat} {x0 : List Int} (how : Int) (h0 : Ints w A0 n0 x0) :
    Calls Try.prog 6 #[.slice A0 n0 c0, .int .i64 how] w fun e w' => e = .returned (.bool true) ∧ Below w.heap.size w w' := by
  have q0 := Below.refl w.heap.size w
  have hT := tape_new (c := c0) (h0.below q0)
  have hz1 : (w).heap.size = w.heap.size := by simp
  skip
  have s1 := Sep.startTape hz1 hT
  clear hT
  go_enter Try.func6, Try.ntmps6
  go_upto_region 2 with fail
  generalize (w).alloc (.cells #[.slice A0 n0 c0, .int .i64 0] 33) = v at *
  have HQ := Lib.hid q0
  have HZ1 := Lib.hid hz1
  have H := Lib.hid s1
  skip
  clear s1 hz1 q0 h0
  go_cut [6] (fun q wx => ∃ k : Int, q = .int .i64 k ∧ howOk k = true ∧ v = wx)
  case first =>
    have e3 := and3 how
    have q1 := Int.emod_nonneg how (b := 4) (by omega)
    have q2 := Int.emod_lt_of_pos how (b := 4) (by omega)
    go_wp2_with fail
    go_meet
    exact ⟨1 + how % 4, rfl, howOk_iff.2 ⟨by omega, by omega⟩, rfl⟩
  case rest =>
    obtain ⟨k, rfl, hk, rfl⟩ := hcut
    have HK := Lib.hid hk
    clear hk
    go_wp2_with fail
    refine (next_any 4 (H.out.tape 0 rfl) ⟨by omega, by omega⟩).mono ?_; rintro e1 w1 ⟨⟨r1, rfl, hr0, hr1⟩, hR⟩
    replace H := Lib.hid (H.out.read 0 rfl hR)
    have hw1 : IntKind.i64.wrap (1 + r1) = 1 + r1 := IntWalk.i64_in _ ⟨by omega, by omega⟩
    have hp1 : 1 ≤ 1 + r1 ∧ 1 + r1 ≤ 5 := by omega
    clear hR hr0 hr1
    go_wp2_with fail
    refine (next_any 5 (H.out.tape 0 rfl) ⟨by omega, by omega⟩).mono ?_; rintro e2 w2 ⟨⟨r2, rfl, hr0, hr1⟩, hR⟩
    replace H := Lib.hid (H.out.read 0 rfl hR)
    have hw2 : IntKind.i64.wrap (1 + r2) = 1 + r2 := IntWalk.i64_in _ ⟨by omega, by omega⟩
    have hq1 : 1 ≤ 1 + r2 ∧ 1 + r2 ≤ 5 := by omega
    clear hR hr0 hr1
    have H5 := Lib.hid (H.out.lit 3 #[.int .i64 (1 + r1), .int .i64 1, .int .i64 (1 + r2)] [1 + r1, 1, 1 + r2] 3 w2.heap.size rfl rfl (by simp [litOk]; omega))
    have C3 := tapeTensor_any (c := 3) (H5.out.tape 1 rfl) ((H5.out.ownInts 0 rfl).2.2) (by omega)
    go_wp2_with fail
    refine C3.mono ?_; rintro e3 w3 ⟨⟨v3, dt, rfl, hOT, hdl⟩, hR⟩
    obtain ⟨vs, vd, nt, mt, rfl, ho1, ho2⟩ := hOT
    obtain ⟨St, kt, rfl, _, _, _⟩ := ho1.form
    obtain ⟨Dt, jt, rfl, _, _, _⟩ := ho2.form
    have h5 := H5.out.readOwn2 1 rfl hR ho1 ho2 (Ne.symm ty_ne.1)
    have hFD := ho2.2.1
    have h6 := h5.allocBox w3.heap.size 26 [.slice St nt kt, .slice Dt mt jt] rfl
    have HFD := Lib.hid hFD
    clear C3 ho1 ho2 h5 hR hFD H5
    go_upto_region 4 with fail
    generalize w3.alloc (.cells #[.slice St nt kt, .slice Dt mt jt] 26) = vA at *
    generalize w3.heap.size = gt at *
    replace H := Lib.hid h6
    clear h6
    have hrt : tenRight [1 + r1, 1, 1 + r2] dt = true := by
      have hr : Sh.right [1 + r1, 1, 1 + r2] = true := Sh.right_iff.2 ⟨by simp, fun x hx => by simp at hx; omega, by
        obtain ⟨p1, p2⟩ := hp1; obtain ⟨q1, q2⟩ := hq1
        have := Int.mul_le_mul p2 q2 (by omega) (by omega)
        simp [Sh.pr]; omega⟩
      have h2 := Sh.size_bd [1 + r1, 1, 1 + r2]
      simp only [tenRight, hr, Bool.true_and, decide_eq_true_eq]; omega
    have HRT := Lib.hid hrt
    clear hrt hdl
    have HTU := Lib.hid (show TuOk [1 + r1, 1, 1 + r2] [2, 1, 0] from perm_tu (s := [1 + r1, 1, 1 + r2]) ⟨rfl, by simp, by decide⟩)
    have HE1 := Lib.hid (turnR_ok HRT.out HTU.out)
    have t0 := H.out.cell 0 0 rfl rfl
    have t1 := H.out.cell 0 1 rfl rfl
    replace H := Lib.hid (H.out.lit 3 #[.int .i64 2, .int .i64 1, .int .i64 0] [2, 1, 0] 3 vA.heap.size rfl rfl rfl)
    have C0 := ref4Turn_any (ca := 3) (ten_mk (H.out.ownInts 2 rfl).2.2 (H.out.ownInts 2 rfl).2.1 (H.out.ownInts 3 rfl).2.2 (H.out.ownInts 3 rfl).2.1) ((H.out.ownInts 0 rfl).2.2)
    rw [HE1.out] at C0
    go_wp2_with fail
    refine C0.mono ?_; rintro e0 w0 ⟨⟨u, rfl, hu⟩, hb⟩
    obtain ⟨Su, nu, cu, Du, mu, du, rfl, _, _, _, _, _, h5⟩ := H.out.addTen hb hu
    have h6 := h5.allocBox w0.heap.size 26 [.slice Su nu cu, .slice Du mu du] rfl
    clear C0 hu hb h5 t0 t1
    go_upto_region 5 with fail
    generalize w0.alloc (.cells #[.slice Su nu cu, .slice Du mu du] 26) = vu at *
    generalize w0.heap.size = gu at *
    replace H := Lib.hid h6
    clear h6
    have HE2 := Lib.hid (show foldR k [1 + r1, 1, 1 + r2] dt [0, 1, 2] = (0, [], foldD k [1 + r1, 1, 1 + r2] dt [0, 1, 2]) from by rw [foldR_ok HK.out HRT.out rises_all (by rw [rest_allthree]; decide), rest_allthree])
    have t0 := H.out.cell 4 0 rfl rfl
    have t1 := H.out.cell 4 1 rfl rfl
    replace H := Lib.hid (H.out.lit 3 #[.int .i64 0, .int .i64 1, .int .i64 2] [0, 1, 2] 3 vu.heap.size rfl rfl rfl)
    have C1 := fdDo_any (ca := 3) k (ten_mk (H.out.ownInts 6 rfl).2.2 (H.out.ownInts 6 rfl).2.1 (H.out.ownInts 7 rfl).2.2 (H.out.ownInts 7 rfl).2.1) ((H.out.ownInts 0 rfl).2.2)
    rw [HE2.out] at C1
    go_wp2_with fail
    refine C1.mono ?_; rintro e1 w1 ⟨⟨u, rfl, hu⟩, hb⟩
    obtain ⟨Sa, na, ca, Da, ma, da, rfl, _, _, _, _, _, h5⟩ := H.out.addTen hb hu
    have h6 := h5.allocBox w1.heap.size 26 [.slice Sa na ca, .slice Da ma da] rfl
    clear C1 hu hb h5 t0 t1
    go_upto_region 6 with fail
    generalize w1.alloc (.cells #[.slice Sa na ca, .slice Da ma da] 26) = va at *
    generalize w1.heap.size = ga at *
    replace H := Lib.hid h6
    clear h6
    have hrt2 : tenRight (turnS [1 + r1, 1, 1 + r2] [2, 1, 0]) (turnD [1 + r1, 1, 1 + r2] dt [2, 1, 0]) = true := by
      obtain ⟨hr2, hsz⟩ := turn_right HTU.out (right_of HRT.out)
      have := Sh.size_bd (turnS [1 + r1, 1, 1 + r2] [2, 1, 0])
      simp only [tenRight, hr2, Bool.true_and, decide_eq_true_eq, turnD, gen_length]
      omega
    have HE3 := Lib.hid (show foldR k (turnS [1 + r1, 1, 1 + r2] [2, 1, 0]) (turnD [1 + r1, 1, 1 + r2] dt [2, 1, 0]) [0, 1, 2] = (0, [], foldD k [1 + r1, 1, 1 + r2] dt [0, 1, 2]) from by
      rw [foldR_ok HK.out hrt2 rises_all (by rw [show turnS [1 + r1, 1, 1 + r2] [2, 1, 0] = [1 + r2, 1, 1 + r1] from rfl, rest_allthree]; decide), fold_turned HRT.out HTU.out rest_allthree rest_allthree, show rest [0, 1, 2] (turnS [1 + r1, 1, 1 + r2] [2, 1, 0]) = [] from rest_allthree])
    clear hrt2
    have u0 := H.out.cell 4 0 rfl rfl
    have u1 := H.out.cell 4 1 rfl rfl
    replace H := Lib.hid (H.out.lit 3 #[.int .i64 0, .int .i64 1, .int .i64 2] [0, 1, 2] 3 va.heap.size rfl rfl rfl)
    have C2 := fdDo_any (ca := 3) k (ten_mk (H.out.ownInts 6 rfl).2.2 (H.out.ownInts 6 rfl).2.1 (H.out.ownInts 7 rfl).2.2 (H.out.ownInts 7 rfl).2.1) ((H.out.ownInts 0 rfl).2.2)
    rw [HE3.out] at C2
    go_wp2_with fail
    refine C2.mono ?_; rintro e2 w2 ⟨⟨u, rfl, hu⟩, hb⟩
    obtain ⟨Sb, nb, cb, Db, mb, db, rfl, _, _, _, _, _, h5⟩ := H.out.addTen hb hu
    have h6 := h5.allocBox w2.heap.size 26 [.slice Sb nb cb, .slice Db mb db] rfl
    clear C2 hu hb h5 u0 u1
    go_upto_region 7 with fail
    generalize w2.alloc (.cells #[.slice Sb nb cb, .slice Db mb db] 26) = vb at *
    generalize w2.heap.size = gb at *
    replace H := Lib.hid h6
    clear h6
    have HMD := Lib.hid (fold_mid HK.out HRT.out HFD.out)
    have HE4 := Lib.hid (show foldR k [1 + r1, 1, 1 + r2] dt [1] = (0, [1 + r1, 1 + r2], dt) from by rw [foldR_ok HK.out HRT.out rises_mid (by rw [rest_three]; exact HMD.out.1), rest_three, HMD.out.2])
    have t0 := H.out.cell 12 0 rfl rfl
    have t1 := H.out.cell 12 1 rfl rfl
    replace H := Lib.hid (H.out.lit 3 #[.int .i64 1] [1] 1 vb.heap.size rfl rfl rfl)
    have C3 := fdDo_any (ca := 1) k (ten_mk (H.out.ownInts 14 rfl).2.2 (H.out.ownInts 14 rfl).2.1 (H.out.ownInts 15 rfl).2.2 (H.out.ownInts 15 rfl).2.1) ((H.out.ownInts 0 rfl).2.2)
    rw [HE4.out] at C3
    go_wp2_with fail
    refine C3.mono ?_; rintro e3 w3 ⟨⟨u, rfl, hu⟩, hb⟩
    obtain ⟨Sc, nc, cc, Dc, mc, dc, rfl, _, _, _, _, _, h5⟩ := H.out.addTen hb hu
    have h6 := h5.allocBox w3.heap.size 26 [.slice Sc nc cc, .slice Dc mc dc] rfl
    clear C3 hu hb h5 t0 t1
    go_upto_region 8 with fail
    generalize w3.alloc (.cells #[.slice Sc nc cc, .slice Dc mc dc] 26) = vc at *
    generalize w3.heap.size = gc at *
    replace H := Lib.hid h6
    clear h6
    have Ic := (H.out.ownInts 2 rfl).2.2
    have It := (H.out.ownInts 18 rfl).2.2
    have hmc : mt = mc := It.len.symm.trans Ic.len
    subst hmc
    clear Ic It
    have dm : ((mt : Int) != (mt : Int)) = false := by simp
    have a0 := H.out.cell 8 0 rfl rfl
    have a1 := H.out.cell 8 1 rfl rfl
    have b0 := H.out.cell 4 0 rfl rfl
    have b1 := H.out.cell 4 1 rfl rfl
    have c0 := H.out.cell 0 0 rfl rfl
    have c1 := H.out.cell 0 1 rfl rfl
    have t0 := H.out.cell 16 0 rfl rfl
    have t1 := H.out.cell 16 1 rfl rfl
    have C4 := refSame_eq (ten_mk (H.out.ownInts 9 rfl).2.2 (H.out.ownInts 9 rfl).2.1 (H.out.ownInts 10 rfl).2.2 (H.out.ownInts 10 rfl).2.1) (ten_mk (H.out.ownInts 5 rfl).2.2 (H.out.ownInts 5 rfl).2.1 (H.out.ownInts 6 rfl).2.2 (H.out.ownInts 6 rfl).2.1)
    go_wp2_with fail
    refine C4.mono ?_; rintro e4 w4 ⟨rfl, hb⟩
    replace H := Lib.hid (H.out.below hb)
    clear C4 hb a0 a1 b0 b1 c0 c1 t0 t1
    have Ic := (H.out.ownInts 2 rfl).2.2
    have It := (H.out.ownInts 18 rfl).2.2
    have c1 := H.out.cell 0 1 rfl rfl
    have t1 := H.out.cell 16 1 rfl rfl
    have hmt := It.le
    go_wp2_with fail
    go_loopw [89] (fun kv wr2 => ∃ i : Nat, kv = .int .i64 i ∧ i ≤ mt ∧ ∃ q, wr2 = w4.drewN q) (fun kv _ => mt - (intOf kv).toNat)
    case atStart => exact ⟨0, rfl, by omega, 0, rfl⟩
    case round =>
      obtain ⟨i, rfl, hi, q, rfl⟩ := hrel
      by_cases hlm : i < mt
      · obtain ⟨aw, x, hA, _, hx, hcx, _⟩ := Ic.at_ (k := i) hlm
        obtain ⟨at_, y, hB, _, hy, hcy, _⟩ := It.at_ (k := i) hlm
        subst hA
        subst hB
        rw [hx] at hy
        injection hy with hy
        subst hy
        clear hx
        have dx : (x != x) = false := by simp
        go_wp2_with fail
        go_quiet (fail)
        go_wp2
        go_roundw
        case rel => exact ⟨i + 1, by go_num, by omega, _, rfl⟩
        case measure => simp [intOf]; omega
      · have hin : mt = i := by omega
        subst hin
        clear c1 t1 Ic It
        replace H := Lib.hid (H.out.drewN q)
        generalize w4.drewN q = vL at *
        have HE5 := Lib.hid (show foldR k [1 + r1, 1, 1 + r2] dt [] = (0, [1 + r1, 1, 1 + r2], dt) from by rw [foldR_ok HK.out HRT.out (rises_nil _) (by rw [rest_nil]; exact right_of HRT.out), rest_nil, fold_none HK.out HRT.out HFD.out])
        have t0 := H.out.cell 16 0 rfl rfl
        have t1 := H.out.cell 16 1 rfl rfl
        have C5 := fdDo_any (ca := 0) k (ten_mk (H.out.ownInts 17 rfl).2.2 (H.out.ownInts 17 rfl).2.1 (H.out.ownInts 18 rfl).2.2 (H.out.ownInts 18 rfl).2.1) (Ints.nil_ _ none)
        rw [HE5.out] at C5
        go_wp2_with fail
        refine C5.mono ?_; rintro e5 w5 ⟨⟨u, rfl, hu⟩, hb⟩
        obtain ⟨Sd, nd, cd, Dd, md, dd, rfl, _, _, _, _, _, h5⟩ := H.out.addTen hb hu
        have h6 := h5.allocBox w5.heap.size 26 [.slice Sd nd cd, .slice Dd md dd] rfl
        clear C5 hu hb h5 t0 t1
        go_upto_region 17 with fail
        generalize w5.alloc (.cells #[.slice Sd nd cd, .slice Dd md dd] 26) = vd at *
        generalize w5.heap.size = gd at *
        replace H := Lib.hid h6
        clear h6
        have d0 := H.out.cell 0 0 rfl rfl
        have d1 := H.out.cell 0 1 rfl rfl
        have t0 := H.out.cell 19 0 rfl rfl
        have t1 := H.out.cell 19 1 rfl rfl
        have C6 := refSame_eq (ten_mk (H.out.ownInts 1 rfl).2.2 (H.out.ownInts 1 rfl).2.1 (H.out.ownInts 2 rfl).2.2 (H.out.ownInts 2 rfl).2.1) (ten_mk (H.out.ownInts 20 rfl).2.2 (H.out.ownInts 20 rfl).2.1 (H.out.ownInts 21 rfl).2.2 (H.out.ownInts 21 rfl).2.1)
        go_wp2_with fail
        refine C6.mono ?_; rintro e6 w6 ⟨rfl, hb⟩
        replace H := Lib.hid (H.out.below hb)
        clear C6 hb d0 d1 t0 t1
        go_wp2_with fail
        refine (l6known_any _).mono ?_; rintro e9 w9 ⟨rfl, hb⟩
        replace H := Lib.hid (H.out.below hb)
        clear hb
        go_wp2
        go_ret
        exact ⟨rfl, H.out.base⟩
end Go.Proofs.Ytgdgpggicgfddaa
