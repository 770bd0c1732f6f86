/- The walk of the law AxesBack. -/
import Derived.Test.YthgpiimagbcmbaaL5Known
import Derived.Test.YthgpiimagbcmbaaAxB
import Derived.Test.YthgpiimagbcmbaaAxK
import Derived.Test.YthgpiimagbcmbaaBox
import Derived.Test.YthgpiimagbcmbaaRef4B
import Derived.Test.YthgpiimagbcmbaaSepB
import Derived.Test.YthgpiimagbcmbaaKitReg
namespace Go.Proofs.Ythgpiimagbcmbaa
open Go.RowKit

set_option maxRecDepth 100000 in
set_option maxHeartbeats 12800000 in
theorem aback_walk {w : World} {A0 : Option Addr} {n0 c0 : Nat} {x0 : List Int} (nn : Int) (h0 : Ints w A0 n0 x0) (hnn : Fits nn) :
    Calls Try.prog 4 #[.slice A0 n0 c0, .int .i64 nn] w fun e w' => e = .returned (.bool true) ∧ Below w.heap.size w w' := by
  have q0 := Below.refl w.heap.size w
  have hT := tape_new (c := c0) (h0.below q0)
  have hz1 : (w).heap.size = w.heap.size := by simp
  skip
  have s1 := Sep.startTape hz1 hT
  clear hT
  go_enter Try.func4, Try.ntmps4
  go_upto_region 2 with fail
  generalize (w).alloc (.cells #[.slice A0 n0 c0, .int .i64 0] 28) = v at *
  have HQ := Lib.hid q0
  have HZ1 := Lib.hid hz1
  have H := Lib.hid s1
  skip
  clear s1 hz1 q0 h0
  have HNN := Lib.hid hnn
  clear hnn
  have C0 := tapeShape_any (H.out.tape 0 rfl)
  go_wp2_with fail
  refine C0.mono ?_; rintro e0 w0 ⟨⟨v, ns, s, rfl, hO, hns, hsh⟩, hR⟩
  obtain ⟨As, cs, rfl, hcs, hI, _⟩ := hO.form
  have Rs := Lib.hid (small_shape (by rw [hI.len]; exact hns) hsh)
  have Ds := Lib.hid hsh
  have Ls := Lib.hid hI.len
  replace H := Lib.hid (H.out.readOwn 0 rfl hR hO)
  clear C0 hO hI hsh hR
  have C1 := tapeTensor_any (c := cs) (H.out.tape 1 rfl) ((H.out.ownInts 0 rfl).2.2) (by omega)
  go_wp2_with fail
  refine C1.mono ?_; rintro e1 w1 ⟨⟨v, dt, rfl, hOT, hdl⟩, hR⟩
  obtain ⟨vs, vd, nt, mt, rfl, ho1, ho2⟩ := hOT
  obtain ⟨St, kt, rfl, _, _, _⟩ := ho1.form
  obtain ⟨Dt, jt, rfl, _, _, _⟩ := ho2.form
  have Lt := Lib.hid hdl
  have h5 := H.out.readOwn2 1 rfl hR ho1 ho2 (Ne.symm ty_ne.1)
  have h6 := h5.allocBox w1.heap.size 25 [.slice St nt kt, .slice Dt mt jt] rfl
  clear C1 ho1 ho2 h5 hR hdl
  go_upto_region 4 with fail
  generalize w1.alloc (.cells #[.slice St nt kt, .slice Dt mt jt] 25) = v1 at *
  generalize w1.heap.size = gt at *
  replace H := Lib.hid h6
  clear h6
  replace H := Lib.hid (((((H.out.addNil 3).addNil 3).addNil 3).addNil 3).addNil 3)
  go_wp2_with fail
  go_loopw [45, 8, 9, 10, 11, 12] (fun kv pv bv lv hv zv wr => ∃ (i : Nat) (P lo hi : List Int), kv = .int .i64 i ∧ i ≤ ns ∧ Perm i P ∧ Tiny i lo ∧ Tiny i hi ∧ Sep w wr [.own 3 pv i P, .own 3 bv i (List.replicate i 0), .own 3 lv i lo, .own 3 hv i hi, .own 3 zv i (List.replicate i 0), .box gt 25 [.slice St nt kt, .slice Dt mt jt], .own 3 (.slice St nt kt) nt s, .own 2 (.slice Dt mt jt) mt dt, .own 3 (.slice As ns cs) ns s, .tape w.heap.size]) (fun kv _ _ _ _ _ _ => ns - (intOf kv).toNat)
  case atStart => exact ⟨0, [], [], [], rfl, by omega, perm_zero, tiny_zero, tiny_zero, H.out⟩
  case round =>
    clear H
    obtain ⟨i, P, lo, hi, rfl, hile, hP, hlo, hhi, hS⟩ := hrel
    have HP := Lib.hid hP
    have HLO := Lib.hid hlo
    have HHI := Lib.hid hhi
    clear hP hlo hhi
    by_cases hli : i < ns
    · have H := Lib.hid hS
      clear hS
      obtain ⟨Ap, cp, hv1, _, _, _⟩ := (H.out.ownS 0 rfl).form
      subst hv1
      obtain ⟨Ab, cb, hv1, _, _, _⟩ := (H.out.ownS 1 rfl).form
      subst hv1
      obtain ⟨Al, cl, hv1, _, _, _⟩ := (H.out.ownS 2 rfl).form
      subst hv1
      obtain ⟨Ah, ch, hv1, _, _, _⟩ := (H.out.ownS 3 rfl).form
      subst hv1
      obtain ⟨Az, cz, hv1, _, _, _⟩ := (H.out.ownS 4 rfl).form
      subst hv1
      go_wp2_with fail
      refine (next_any ((i : Int) + 1) (H.out.tape 9 rfl) ⟨by omega, by omega⟩).mono ?_; rintro e4 w4 ⟨⟨r4, rfl, hr4, hr5⟩, hR⟩
      replace H := Lib.hid (H.out.read 9 rfl hR)
      obtain ⟨k, rfl⟩ := Int.eq_ofNat_of_zero_le hr4
      have hk : k ≤ i := by omega
      clear hR hr4 hr5
      go_upto_region 9 with fail
      have hcs2 := (H.out.ownInts 0 rfl).2.1
      have hst := ((H.out.ownInts 0 rfl).2.2).take hk
      have hkc : k ≤ cp := by omega
      obtain ⟨Dd, hDd⟩ : ∃ D, (if cp = k then Ap else Ap.map (·.add k)) = D := ⟨_, rfl⟩
      have HDd := Lib.hid hDd
      go_cut [8] (fun q wx => ∃ (Ao : Option Addr) (co : Nat), q = .slice Ao (i + 1) co ∧ Sep w wx (.own 3 (.slice Ao (i + 1) co) (i + 1) (ins P k i) :: [.own 3 (.slice Ab i cb) i (List.replicate i 0), .own 3 (.slice Al i cl) i lo, .own 3 (.slice Ah i ch) i hi, .own 3 (.slice Az i cz) i (List.replicate i 0), .box gt 25 [.slice St nt kt, .slice Dt mt jt], .own 3 (.slice St nt kt) nt s, .own 2 (.slice Dt mt jt) mt dt, .own 3 (.slice As ns cs) ns s, .tape w.heap.size]))
      case first =>
        have E1 := Lib.hid (H.out.empty 3).drew
        have E2 := Lib.hid ((H.out.empty 3).lit 3 #[.int .i64 i] [(i : Int)] 1 (w4.heap.size + 1) (by simp) rfl (by simp [litOk]; omega)).drew
        have E3 := ((H.out.lit 3 #[.int .i64 i] [(i : Int)] 1 w4.heap.size rfl rfl (by simp [litOk]; omega)).empty 3).drew
        rw [size_alloc] at E3
        replace E3 := Lib.hid E3
        have T1 : Ints (w4.alloc (.cells #[] 3)).drew Ap k (P.take k) := hst.alloc _
        have T2 : Ints ((w4.alloc (.cells #[] 3)).alloc (.cells #[.int .i64 i] 3)).drew Ap k (P.take k) := (hst.alloc _).alloc _
        have T3 : Ints ((w4.alloc (.cells #[.int .i64 i] 3)).alloc (.cells #[] 3)).drew Ap k (P.take k) := (hst.alloc _).alloc _
        go_region_law (first
          | (refine step_appends_sep rfl (.tmp 59) (.tmp 62) 22 3 rfl Try.underlying22 Try.infoInt G2.out 0 rfl rfl Dd (i - k) _ (P.drop k) rfl hsl ?_ ?_; (focus omega); intro x3 y3 h3; have G3 := Lib.hid h3; clear h3)
          | (refine step_append_sep rfl (.tmp 56) (.tmp 58) 22 3 rfl Try.underlying22 Try.infoInt G1.out 0 rfl rfl (i : Int) ⟨by omega, by omega⟩ _ rfl ?_ ?_; (focus omega); intro x2 y2 h2; have G2 := Lib.hid h2; clear h2; have hsl := ((G2.out.ownInts 1 rfl).2.2).drop hk hcs2; rw [HDd.out] at hsl)
          | (refine step_appends_sep rfl (.tmp 56) (.tmp 58) 22 3 rfl Try.underlying22 Try.infoInt G1a.out 1 rfl rfl _ 1 1 [(i : Int)] rfl ((G1a.out.ownInts 0 rfl).2.2) ?_ ?_; (focus omega); intro x2 y2 h2; have G2 := Lib.hid (h2.sub (l' := .own 3 x2 (0 + k + 1) ([] ++ P.take k ++ [(i : Int)]) :: [.own 3 (.slice Ap i cp) i P, .own 3 (.slice Ab i cb) i (List.replicate i 0), .own 3 (.slice Al i cl) i lo, .own 3 (.slice Ah i ch) i hi, .own 3 (.slice Az i cz) i (List.replicate i 0), .box gt 25 [.slice St nt kt, .slice Dt mt jt], .own 3 (.slice St nt kt) nt s, .own 2 (.slice Dt mt jt) mt dt, .own 3 (.slice As ns cs) ns s, .tape w.heap.size]) [1, 2, 3, 4, 5, 6, 7, 8, 9, 10, 11] rfl (by decide)); clear h2; have hsl := ((G2.out.ownInts 1 rfl).2.2).drop hk hcs2; rw [HDd.out] at hsl)
          | (refine step_appends_sep rfl (.tmp 56) (.tmp 58) 22 3 rfl Try.underlying22 Try.infoInt G1b.out 0 rfl rfl _ 1 1 [(i : Int)] rfl ((G1b.out.ownInts 1 rfl).2.2) ?_ ?_; (focus omega); intro x2 y2 h2; have G2 := Lib.hid (h2.sub (l' := .own 3 x2 (0 + k + 1) ([] ++ P.take k ++ [(i : Int)]) :: [.own 3 (.slice Ap i cp) i P, .own 3 (.slice Ab i cb) i (List.replicate i 0), .own 3 (.slice Al i cl) i lo, .own 3 (.slice Ah i ch) i hi, .own 3 (.slice Az i cz) i (List.replicate i 0), .box gt 25 [.slice St nt kt, .slice Dt mt jt], .own 3 (.slice St nt kt) nt s, .own 2 (.slice Dt mt jt) mt dt, .own 3 (.slice As ns cs) ns s, .tape w.heap.size]) [0, 2, 3, 4, 5, 6, 7, 8, 9, 10, 11] rfl (by decide)); clear h2; have hsl := ((G2.out.ownInts 1 rfl).2.2).drop hk hcs2; rw [HDd.out] at hsl)
          | (refine step_appends_sep rfl (.tmp 52) (.tmp 55) 22 3 rfl Try.underlying22 Try.infoInt E1.out 0 rfl rfl Ap k cp (P.take k) rfl T1 ?_ ?_; (focus omega); intro x1 y1 h1; have G1 := Lib.hid h1; clear h1)
          | (refine step_appends_sep rfl (.tmp 52) (.tmp 55) 22 3 rfl Try.underlying22 Try.infoInt E2.out 1 rfl rfl Ap k cp (P.take k) rfl T2 ?_ ?_; (focus omega); intro x1 y1 h1; have G1a := Lib.hid h1; clear h1)
          | (refine step_appends_sep rfl (.tmp 52) (.tmp 55) 22 3 rfl Try.underlying22 Try.infoInt E3.out 0 rfl rfl Ap k cp (P.take k) rfl T3 ?_ ?_; (focus omega); intro x1 y1 h1; have G1b := Lib.hid h1; clear h1))
        all_goals
          obtain ⟨Ao, co, hv, _, _, _⟩ := (G3.out.ownS 0 rfl).form
          subst hv
          go_wp2_with fail
          go_meet
          have h9 := G3.out.recast (l' := .own 3 (.slice Ao (i + 1) co) (i + 1) (ins P k i) :: [.own 3 (.slice Ap i cp) i P, .own 3 (.slice Ab i cb) i (List.replicate i 0), .own 3 (.slice Al i cl) i lo, .own 3 (.slice Ah i ch) i hi, .own 3 (.slice Az i cz) i (List.replicate i 0), .box gt 25 [.slice St nt kt, .slice Dt mt jt], .own 3 (.slice St nt kt) nt s, .own 2 (.slice Dt mt jt) mt dt, .own 3 (.slice As ns cs) ns s, .tape w.heap.size]) (by simp [ins]; omega)
          exact ⟨Ao, co, by rw [show 0 + k + 1 + (i - k) = i + 1 by omega], h9.sub [0, 2, 3, 4, 5, 6, 7, 8, 9, 10] rfl (by decide)⟩
      case rest =>
        obtain ⟨Ao, co, rfl, hS⟩ := hcut
        replace H := Lib.hid hS
        clear hS hst hcs2 hkc hDd
        go_wp2_with fail
        refine (next_any 3 (H.out.tape 9 rfl) ⟨by omega, by omega⟩).mono ?_; rintro e5 w5 ⟨⟨rl, rfl, hrl0, hrl1⟩, hR⟩
        replace H := Lib.hid (H.out.read 9 rfl hR)
        have Hrl := Lib.hid (show 0 ≤ rl ∧ rl ≤ 2 by omega)
        obtain ⟨hfrl1, hfrl2⟩ : -9223372036854775808 ≤ rl ∧ rl ≤ 9223372036854775807 := by omega
        clear hR hrl0 hrl1
        go_wp2_with (at_builtin; refine wpList_append_sep rfl (.tmp 64) (.tmp 67) 22 3 rfl Try.underlying22 Try.infoInt H.out 2 rfl rfl rl ⟨by omega, by omega⟩ _ rfl ?c1 ?_)
        case c1 => omega
        intro l6 w6 h6
        replace H := Lib.hid h6
        clear h6
        go_wp2_with fail
        refine (next_any 3 (H.out.tape 9 rfl) ⟨by omega, by omega⟩).mono ?_; rintro e5 w5 ⟨⟨rh, rfl, hrh0, hrh1⟩, hR⟩
        replace H := Lib.hid (H.out.read 9 rfl hR)
        have Hrh := Lib.hid (show 0 ≤ rh ∧ rh ≤ 2 by omega)
        obtain ⟨hfrh1, hfrh2⟩ : -9223372036854775808 ≤ rh ∧ rh ≤ 9223372036854775807 := by omega
        clear hR hrh0 hrh1
        go_wp2_with (at_builtin; refine wpList_append_sep rfl (.tmp 69) (.tmp 72) 22 3 rfl Try.underlying22 Try.infoInt H.out 3 rfl rfl rh ⟨by omega, by omega⟩ _ rfl ?c1 ?_)
        case c1 => omega
        intro h7 w6 h6
        replace H := Lib.hid h6
        clear h6
        go_wp2_with (at_builtin; refine wpList_append_sep rfl (.tmp 74) (.tmp 75) 22 3 rfl Try.underlying22 Try.infoInt H.out 4 rfl rfl 0 ⟨by omega, by omega⟩ _ rfl ?c1 ?_)
        case c1 => omega
        intro z7 w6 h6
        replace H := Lib.hid h6
        clear h6
        go_wp2_with (at_builtin; refine wpList_append_sep rfl (.tmp 77) (.tmp 78) 22 3 rfl Try.underlying22 Try.infoInt H.out 1 rfl rfl 0 ⟨by omega, by omega⟩ _ rfl ?c1 ?_)
        case c1 => omega
        intro b7 w6 h6
        replace H := Lib.hid h6
        clear h6
        have HTF := Lib.hid (show List.replicate i (0 : Int) ++ [0] = List.replicate (i + 1) 0 by rw [List.replicate_succ'])
        go_wp2
        go_roundw
        case rel => exact ⟨i + 1, ins P k i, lo ++ [rl], hi ++ [rh], by go_num, by omega, perm_ins HP.out hk, tiny_snoc HLO.out Hrl.out.1 Hrl.out.2, tiny_snoc HHI.out Hrh.out.1 Hrh.out.2, by rw [← HTF.out]; exact H.out⟩
        case measure => simp [intOf]; omega
    · have hin : ns = i := by omega
      subst hin
      have H := Lib.hid hS
      clear hS
      obtain ⟨Ap, cp, hv1, _, _, _⟩ := (H.out.ownS 0 rfl).form
      subst hv1
      obtain ⟨Ab, cb, hv1, _, _, _⟩ := (H.out.ownS 1 rfl).form
      subst hv1
      obtain ⟨Al, cl, hv1, _, _, _⟩ := (H.out.ownS 2 rfl).form
      subst hv1
      obtain ⟨Ah, ch, hv1, _, _, _⟩ := (H.out.ownS 3 rfl).form
      subst hv1
      obtain ⟨Az, cz, hv1, _, _, _⟩ := (H.out.ownS 4 rfl).form
      subst hv1
      have HTU := Lib.hid (show TuOk s P from perm_tu (by rw [Ls.out]; exact HP.out))
      have HPL := Lib.hid HP.out.1
      have hrt : tenRight s dt = true := by have := Lt.out; have h2 := Sh.size_bd s; simp only [tenRight, Rs.out, Bool.true_and, decide_eq_true_eq]; omega
      have HRT := Lib.hid hrt
      clear hrt
      go_wp2_with fail
      go_loopw [83] (fun kv wr => ∃ j : Nat, kv = .int .i64 j ∧ j ≤ ns ∧ Sep w wr [.own 3 (.slice Ap ns cp) ns P, .own 3 (.slice Ab ns cb) ns (setAll (List.replicate ns 0) P (iotaL ns) j), .own 3 (.slice Al ns cl) ns lo, .own 3 (.slice Ah ns ch) ns hi, .own 3 (.slice Az ns cz) ns (List.replicate ns 0), .box gt 25 [.slice St nt kt, .slice Dt mt jt], .own 3 (.slice St nt kt) nt s, .own 2 (.slice Dt mt jt) mt dt, .own 3 (.slice As ns cs) ns s, .tape w.heap.size]) (fun kv _ => ns - (intOf kv).toNat)
      case atStart => exact ⟨0, rfl, by omega, H.out⟩
      case round =>
        clear H
        obtain ⟨j, rfl, hj, hS⟩ := hrel
        by_cases hlj : j < ns
        · obtain ⟨pa, x, hpA, _, hx, hcx, hfx⟩ := ((hS.ownInts 0 rfl).2.2).at_ (k := j) hlj
          subst hpA
          have hxi := tu_in HTU.out hx
          obtain ⟨xn, rfl⟩ := Int.eq_ofNat_of_zero_le hxi.1
          have hxn : xn < ns := by have := Ls.out; omega
          obtain ⟨gb, cb2, hv, hO⟩ := (hS.ownS 1 rfl).own (by omega)
          injection hv with hv1 _ hv3
          subst hv1
          subst hv3
          obtain ⟨z, hz⟩ := getElem_of (l := setAll (List.replicate ns 0) P (iotaL ns) j) (k := xn) (by rw [setAll_length, List.length_replicate]; exact hxn)
          have hcz := hO.cell hz
          have hfz := hO.frozen xn
          have hS2 := hS.store 1 xn (x := (j : Int)) ⟨by omega, by omega⟩ rfl
          have hss := setAll_step (f := List.replicate ns 0) hx (iotaL_at (n := ns) hlj)
          rw [Int.toNat_natCast] at hss
          rw [hss] at hS2
          have HS2 := Lib.hid hS2
          clear hS hS2 hss hz hx hxi hfx hO
          go_wp2
          go_roundw
          case rel => exact ⟨j + 1, by go_num, by omega, HS2.out⟩
          case measure => simp [intOf]; omega
        · have hjn : ns = j := by omega
          subst hjn
          rw [show setAll (List.replicate ns 0) P (iotaL ns) ns = backL s P by rw [backL, Ls.out, HPL.out]] at hS
          have H := Lib.hid hS
          clear hS hlj hj hile
          have HE1 := Lib.hid (turnR_ok HRT.out HTU.out)
          have t0 := H.out.cell 5 0 rfl rfl
          have t1 := H.out.cell 5 1 rfl rfl
          have C2 := axTurn_any (ca := cp) (ten_mk (H.out.ownInts 6 rfl).2.2 (H.out.ownInts 6 rfl).2.1 (H.out.ownInts 7 rfl).2.2 (H.out.ownInts 7 rfl).2.1) ((H.out.ownInts 0 rfl).2.2)
          rw [HE1.out] at C2
          go_wp2_with fail
          refine C2.mono ?_; rintro e2 w2 ⟨⟨u, rfl, hu⟩, hb⟩
          obtain ⟨Su, nu, cu, Du, mu, du, rfl, _, _, _, _, _, h5⟩ := H.out.addTen hb hu
          have h6 := h5.allocBox w2.heap.size 25 [.slice Su nu cu, .slice Du mu du] rfl
          clear C2 hu hb h5 t0 t1
          go_upto_region 18 with fail
          generalize w2.alloc (.cells #[.slice Su nu cu, .slice Du mu du] 25) = v2 at *
          generalize w2.heap.size = gu at *
          replace H := Lib.hid h6
          clear h6
          have HE2 := Lib.hid (turn_back HRT.out HTU.out (by rw [backL_length, HTU.out.1]) (back_inv HTU.out)).2
          have u0 := H.out.cell 0 0 rfl rfl
          have u1 := H.out.cell 0 1 rfl rfl
          have C3 := axTurn_any (ca := cb) (ten_mk (H.out.ownInts 1 rfl).2.2 (H.out.ownInts 1 rfl).2.1 (H.out.ownInts 2 rfl).2.2 (H.out.ownInts 2 rfl).2.1) ((H.out.ownInts 4 rfl).2.2)
          rw [HE2.out] at C3
          go_wp2_with fail
          refine C3.mono ?_; rintro e3 w3 ⟨⟨u, rfl, hu⟩, hb⟩
          obtain ⟨Sw, nw, cw, Dw, mw, dw, rfl, _, _, _, _, _, h5⟩ := H.out.addTen hb hu
          have h6 := h5.allocBox w3.heap.size 25 [.slice Sw nw cw, .slice Dw mw dw] rfl
          clear C3 hu hb h5 u0 u1
          go_upto_region 19 with fail
          generalize w3.alloc (.cells #[.slice Sw nw cw, .slice Dw mw dw] 25) = v3 at *
          generalize w3.heap.size = gw at *
          replace H := Lib.hid h6
          clear h6
          have w0 := H.out.cell 0 0 rfl rfl
          have w1 := H.out.cell 0 1 rfl rfl
          have t0 := H.out.cell 11 0 rfl rfl
          have t1 := H.out.cell 11 1 rfl rfl
          have C4 := refSame_eq (ten_mk (H.out.ownInts 1 rfl).2.2 (H.out.ownInts 1 rfl).2.1 (H.out.ownInts 2 rfl).2.2 (H.out.ownInts 2 rfl).2.1) (ten_mk (H.out.ownInts 12 rfl).2.2 (H.out.ownInts 12 rfl).2.1 (H.out.ownInts 13 rfl).2.2 (H.out.ownInts 13 rfl).2.1)
          go_wp2_with fail
          refine C4.mono ?_; rintro e4 w4 ⟨rfl, hb⟩
          replace H := Lib.hid (H.out.below hb)
          clear C4 hb w0 w1 t0 t1
          have HPK := Lib.hid (show PadOk s lo hi from tiny_pad (by rw [Ls.out]; exact HLO.out) (by rw [Ls.out]; exact HHI.out))
          obtain ⟨pe, psh, pdt, hpp⟩ : ∃ a b c, padR s dt lo hi nn = (a, b, c) := ⟨_, _, _, rfl⟩
          have HPP := Lib.hid hpp
          have t0 := H.out.cell 11 0 rfl rfl
          have t1 := H.out.cell 11 1 rfl rfl
          have C5 := axPad_any (cl := cl) (ch := ch) nn (ten_mk (H.out.ownInts 12 rfl).2.2 (H.out.ownInts 12 rfl).2.1 (H.out.ownInts 13 rfl).2.2 (H.out.ownInts 13 rfl).2.1) ((H.out.ownInts 8 rfl).2.2) ((H.out.ownInts 9 rfl).2.2) HNN.out
          rw [hpp] at C5
          go_wp2_with fail
          refine C5.mono ?_; rintro e5 w5 ⟨⟨u, rfl, hu⟩, hb⟩
          obtain ⟨Sy, ny, cy, Dy, my, dy, rfl, _, _, _, _, _, h5⟩ := H.out.addTen hb hu
          have h6 := h5.allocBox w5.heap.size 25 [.slice Sy ny cy, .slice Dy my dy] rfl
          clear C5 hu hb h5 t0 t1
          go_upto_region 22 with fail
          generalize w5.alloc (.cells #[.slice Sy ny cy, .slice Dy my dy] 25) = v5 at *
          generalize w5.heap.size = gy at *
          replace H := Lib.hid h6
          clear h6
          clear hpp
          go_upto_if 127 with fail
          go_cut [] (fun wx => Sep w wx [.box gw 25 [.slice Sw nw cw, .slice Dw mw dw], .own 3 (.slice Sw nw cw) nw (s), .own 2 (.slice Dw mw dw) mw (dt), .box gu 25 [.slice Su nu cu, .slice Du mu du], .own 3 (.slice Su nu cu) nu (turnS s P), .own 2 (.slice Du mu du) mu (turnD s dt P), .own 3 (.slice Ap ns cp) ns P, .own 3 (.slice Ab ns cb) ns (backL s P), .own 3 (.slice Al ns cl) ns lo, .own 3 (.slice Ah ns ch) ns hi, .own 3 (.slice Az ns cz) ns (List.replicate ns 0), .box gt 25 [.slice St nt kt, .slice Dt mt jt], .own 3 (.slice St nt kt) nt s, .own 2 (.slice Dt mt jt) mt dt, .own 3 (.slice As ns cs) ns s, .tape w.heap.size])
          case first =>
            cases hro : Sh.right (padS s lo hi) with
            | false =>
              have hpp := HPP.out
              rw [padR_shape2 HRT.out HPK.out hro] at hpp
              injection hpp with e1 e2
              subst e1
              clear e2
              go_wp2_with fail
              go_meet
              exact H.out.sub [3, 4, 5, 6, 7, 8, 9, 10, 11, 12, 13, 14, 15, 16, 17, 18] rfl (by decide)
            | true =>
              have hpp := HPP.out
              rw [padR_ok HRT.out HPK.out hro] at hpp
              injection hpp with e1 e2
              injection e2 with e2 e3
              subst e1
              subst e2
              subst e3
              have HE3 := Lib.hid (pad_cut (n := nn) HRT.out HPK.out hro).2
              clear hro
              have y0 := H.out.cell 0 0 rfl rfl
              have y1 := H.out.cell 0 1 rfl rfl
              have C6 := axSlice_any (cf := cl) (cz := cs) (ten_mk (H.out.ownInts 1 rfl).2.2 (H.out.ownInts 1 rfl).2.1 (H.out.ownInts 2 rfl).2.2 (H.out.ownInts 2 rfl).2.1) ((H.out.ownInts 11 rfl).2.2) ((H.out.ownInts 17 rfl).2.2)
              rw [HE3.out] at C6
              go_wp2_with fail
              refine C6.mono ?_; rintro e6 w6 ⟨⟨u, rfl, hu⟩, hb⟩
              obtain ⟨Sz, nz, cz, Dz, mz, dz, rfl, _, _, _, _, _, h5⟩ := H.out.addTen hb hu
              have h6 := h5.allocBox w6.heap.size 25 [.slice Sz nz cz, .slice Dz mz dz] rfl
              clear C6 hu hb h5 y0 y1
              go_upto_region 24 with fail
              generalize w6.alloc (.cells #[.slice Sz nz cz, .slice Dz mz dz] 25) = v6 at *
              generalize w6.heap.size = gz at *
              replace H := Lib.hid h6
              clear h6
              have z0 := H.out.cell 0 0 rfl rfl
              have z1 := H.out.cell 0 1 rfl rfl
              have t0 := H.out.cell 17 0 rfl rfl
              have t1 := H.out.cell 17 1 rfl rfl
              have C7 := refSame_eq (ten_mk (H.out.ownInts 1 rfl).2.2 (H.out.ownInts 1 rfl).2.1 (H.out.ownInts 2 rfl).2.2 (H.out.ownInts 2 rfl).2.1) (ten_mk (H.out.ownInts 18 rfl).2.2 (H.out.ownInts 18 rfl).2.1 (H.out.ownInts 19 rfl).2.2 (H.out.ownInts 19 rfl).2.1)
              go_wp2_with fail
              refine C7.mono ?_; rintro e7 w7 ⟨rfl, hb⟩
              replace H := Lib.hid (H.out.below hb)
              clear C7 hb z0 z1 t0 t1
              go_wp2_with fail
              go_meet
              exact H.out.sub [6, 7, 8, 9, 10, 11, 12, 13, 14, 15, 16, 17, 18, 19, 20, 21] rfl (by decide)
          case rest =>
            replace H := Lib.hid hcut
            clear hcut
            go_wp2_with fail
            go_loopw [145] (fun kv wr => ∃ j : Nat, kv = .int .i64 j ∧ j ≤ ns ∧ Sep w wr [.box gw 25 [.slice Sw nw cw, .slice Dw mw dw], .own 3 (.slice Sw nw cw) nw (s), .own 2 (.slice Dw mw dw) mw (dt), .box gu 25 [.slice Su nu cu, .slice Du mu du], .own 3 (.slice Su nu cu) nu (turnS s P), .own 2 (.slice Du mu du) mu (turnD s dt P), .own 3 (.slice Ap ns cp) ns P, .own 3 (.slice Ab ns cb) ns (backL s P), .own 3 (.slice Al ns cl) ns lo, .own 3 (.slice Ah ns ch) ns hi, .own 3 (.slice Az ns cz) ns (List.replicate ns 0), .box gt 25 [.slice St nt kt, .slice Dt mt jt], .own 3 (.slice St nt kt) nt s, .own 2 (.slice Dt mt jt) mt dt, .own 3 (.slice As ns cs) ns s, .tape w.heap.size]) (fun kv _ => ns - (intOf kv).toNat)
            case atStart => exact ⟨0, rfl, by omega, H.out⟩
            case round =>
              clear H
              obtain ⟨j, rfl, hj, hS⟩ := hrel
              have H := Lib.hid hS
              clear hS
              by_cases hlj : j < ns
              · obtain ⟨sa, x, hsA, _, hx, hcx, hfx⟩ := (((H.out.ownInts 14 rfl).2.2)).at_ (k := j) hlj
                subst hsA
                have hxb := (Sh.right_iff.1 (right_of HRT.out)).2.1 x (List.mem_of_getElem? hx)
                obtain ⟨hx0, hx1⟩ := hxb
                have HX := Lib.hid hx
                clear hx hfx
                have hw1 : IntKind.i64.wrap (x + 1) = x + 1 := IntWalk.i64_in _ ⟨by omega, by omega⟩
                go_wp2_with fail
                refine (next_any (x + 1) (H.out.tape 15 rfl) ⟨by omega, by omega⟩).mono ?_; rintro e5 w5 ⟨⟨k, rfl, hk0, hk1⟩, hR⟩
                replace H := Lib.hid (H.out.read 15 rfl hR)
                have hkx : k ≤ x := by omega
                clear hR hk1 hcx hw1
                have H5 := Lib.hid (H.out.empty 3)
                go_wp2_with (at_builtin; refine wpList_appends_sep rfl (.tmp 155) (.tmp 156) 22 3 rfl Try.underlying22 Try.infoInt H5.out 0 rfl rfl (some sa) ns cs (s) rfl ((H5.out.ownInts 15 rfl).2.2) ?c1 ?_)
                case c1 => omega
                intro vf1 w6 h6
                replace H := Lib.hid (h6.recast (l' := [.own 3 vf1 ns (s), .box gw 25 [.slice Sw nw cw, .slice Dw mw dw], .own 3 (.slice Sw nw cw) nw (s), .own 2 (.slice Dw mw dw) mw (dt), .box gu 25 [.slice Su nu cu, .slice Du mu du], .own 3 (.slice Su nu cu) nu (turnS s P), .own 2 (.slice Du mu du) mu (turnD s dt P), .own 3 (.slice Ap ns cp) ns P, .own 3 (.slice Ab ns cb) ns (backL s P), .own 3 (.slice Al ns cl) ns lo, .own 3 (.slice Ah ns ch) ns hi, .own 3 (.slice Az ns cz) ns (List.replicate ns 0), .box gt 25 [.slice St nt kt, .slice Dt mt jt], .own 3 (.slice St nt kt) nt s, .own 2 (.slice Dt mt jt) mt dt, .own 3 (.slice (some sa) ns cs) ns s, .tape w.heap.size]) (by simp))
                clear h6 H5
                have H5 := Lib.hid (H.out.empty 3)
                go_wp2_with (at_builtin; refine wpList_appends_sep rfl (.tmp 158) (.tmp 159) 22 3 rfl Try.underlying22 Try.infoInt H5.out 0 rfl rfl (some sa) ns cs (s) rfl ((H5.out.ownInts 16 rfl).2.2) ?c1 ?_)
                case c1 => omega
                intro vf2 w6 h6
                replace H := Lib.hid (h6.recast (l' := [.own 3 vf2 ns (s), .own 3 vf1 ns (s), .box gw 25 [.slice Sw nw cw, .slice Dw mw dw], .own 3 (.slice Sw nw cw) nw (s), .own 2 (.slice Dw mw dw) mw (dt), .box gu 25 [.slice Su nu cu, .slice Du mu du], .own 3 (.slice Su nu cu) nu (turnS s P), .own 2 (.slice Du mu du) mu (turnD s dt P), .own 3 (.slice Ap ns cp) ns P, .own 3 (.slice Ab ns cb) ns (backL s P), .own 3 (.slice Al ns cl) ns lo, .own 3 (.slice Ah ns ch) ns hi, .own 3 (.slice Az ns cz) ns (List.replicate ns 0), .box gt 25 [.slice St nt kt, .slice Dt mt jt], .own 3 (.slice St nt kt) nt s, .own 2 (.slice Dt mt jt) mt dt, .own 3 (.slice (some sa) ns cs) ns s, .tape w.heap.size]) (by simp))
                clear h6 H5
                have H5 := Lib.hid (H.out.empty 3)
                go_wp2_with (at_builtin; refine wpList_appends_sep rfl (.tmp 161) (.tmp 162) 22 3 rfl Try.underlying22 Try.infoInt H5.out 0 rfl rfl Az ns cz (List.replicate ns 0) rfl ((H5.out.ownInts 13 rfl).2.2) ?c1 ?_)
                case c1 => omega
                intro vf3 w6 h6
                replace H := Lib.hid (h6.recast (l' := [.own 3 vf3 ns (List.replicate ns 0), .own 3 vf2 ns (s), .own 3 vf1 ns (s), .box gw 25 [.slice Sw nw cw, .slice Dw mw dw], .own 3 (.slice Sw nw cw) nw (s), .own 2 (.slice Dw mw dw) mw (dt), .box gu 25 [.slice Su nu cu, .slice Du mu du], .own 3 (.slice Su nu cu) nu (turnS s P), .own 2 (.slice Du mu du) mu (turnD s dt P), .own 3 (.slice Ap ns cp) ns P, .own 3 (.slice Ab ns cb) ns (backL s P), .own 3 (.slice Al ns cl) ns lo, .own 3 (.slice Ah ns ch) ns hi, .own 3 (.slice Az ns cz) ns (List.replicate ns 0), .box gt 25 [.slice St nt kt, .slice Dt mt jt], .own 3 (.slice St nt kt) nt s, .own 2 (.slice Dt mt jt) mt dt, .own 3 (.slice (some sa) ns cs) ns s, .tape w.heap.size]) (by simp))
                clear h6 H5
                obtain ⟨g1, c1, hv, _⟩ := (H.out.ownS 2 rfl).own (by omega)
                subst hv
                obtain ⟨g2, c2, hv, _⟩ := (H.out.ownS 1 rfl).own (by omega)
                subst hv
                obtain ⟨g3, c3, hv, _⟩ := (H.out.ownS 0 rfl).own (by omega)
                subst hv
                have hcx := (((H.out.ownInts 17 rfl).2.2)).get HX.out
                have hw2 : IntKind.i64.wrap (x - k) = x - k := IntWalk.i64_in _ ⟨by omega, by omega⟩
                obtain ⟨yh7, hyh7⟩ := getElem_of (l := s) (k := j) (by have := Ls.out; simp; omega)
                have hch7 := (H.out.own 2 rfl).cell hyh7
                have hfh7 := (H.out.own 2 rfl).frozen j
                have h7 := H.out.store 2 j (x := k) ⟨by omega, by omega⟩ rfl
                obtain ⟨yh8, hyh8⟩ := getElem_of (l := s) (k := j) (by have := Ls.out; simp; omega)
                have hch8 := (h7.own 1 rfl).cell hyh8
                have hfh8 := (h7.own 1 rfl).frozen j
                have h8 := h7.store 1 j (x := (x - k)) ⟨by omega, by omega⟩ rfl
                obtain ⟨yh9, hyh9⟩ := getElem_of (l := (List.replicate ns 0 : List Int)) (k := j) (by have := Ls.out; simp; omega)
                have hch9 := (h8.own 0 rfl).cell hyh9
                have hfh9 := (h8.own 0 rfl).frozen j
                have h9 := h8.store 0 j (x := k) ⟨by omega, by omega⟩ rfl
                go_upto_region 32 with fail
                generalize ((w6.setCell ⟨g1, j, none⟩ (.int .i64 k)).setCell ⟨g2, j, none⟩ (.int .i64 (x - k))).setCell ⟨g3, j, none⟩ (.int .i64 k) = w7 at *
                clear hch7 hfh7 hch8 hfh8 hch9 hfh9 hyh7 hyh8 hyh9 h7 h8 hcx hw2
                replace H := Lib.hid h9
                clear h9
                have hcj := cut_join HRT.out HX.out hk0 hkx
                rw [Ls.out] at hcj
                obtain ⟨e1, e2, e3⟩ := hcj
                have HE4 := Lib.hid e1
                have HE5 := Lib.hid e2
                have HE6 := Lib.hid e3
                clear e1 e2 e3
                have t0 := H.out.cell 14 0 rfl rfl
                have t1 := H.out.cell 14 1 rfl rfl
                have C8 := axSlice_any (cf := cz) (cz := c1) (ten_mk (H.out.ownInts 15 rfl).2.2 (H.out.ownInts 15 rfl).2.1 (H.out.ownInts 16 rfl).2.2 (H.out.ownInts 16 rfl).2.1) ((H.out.ownInts 13 rfl).2.2) ((H.out.ownInts 2 rfl).2.2)
                rw [HE4.out] at C8
                go_wp2_with fail
                refine C8.mono ?_; rintro e8 w8 ⟨⟨u, rfl, hu⟩, hb⟩
                obtain ⟨Sa, na, ca, Da, ma, da, rfl, _, _, _, _, _, h5⟩ := H.out.addTen hb hu
                have h6 := h5.allocBox w8.heap.size 25 [.slice Sa na ca, .slice Da ma da] rfl
                clear C8 hu hb h5 t0 t1
                go_upto_region 33 with fail
                generalize w8.alloc (.cells #[.slice Sa na ca, .slice Da ma da] 25) = v8 at *
                generalize w8.heap.size = ga at *
                replace H := Lib.hid h6
                clear h6
                have t0 := H.out.cell 17 0 rfl rfl
                have t1 := H.out.cell 17 1 rfl rfl
                have C9 := axSlice_any (cf := c3) (cz := c2) (ten_mk (H.out.ownInts 18 rfl).2.2 (H.out.ownInts 18 rfl).2.1 (H.out.ownInts 19 rfl).2.2 (H.out.ownInts 19 rfl).2.1) ((H.out.ownInts 3 rfl).2.2) ((H.out.ownInts 4 rfl).2.2)
                rw [HE5.out] at C9
                go_wp2_with fail
                refine C9.mono ?_; rintro e9 w9 ⟨⟨u, rfl, hu⟩, hb⟩
                obtain ⟨Sb, nb, cb, Db, mb, db, rfl, _, _, _, _, _, h5⟩ := H.out.addTen hb hu
                have h6 := h5.allocBox w9.heap.size 25 [.slice Sb nb cb, .slice Db mb db] rfl
                clear C9 hu hb h5 t0 t1
                go_upto_region 34 with fail
                generalize w9.alloc (.cells #[.slice Sb nb cb, .slice Db mb db] 25) = v9 at *
                generalize w9.heap.size = gb at *
                replace H := Lib.hid h6
                clear h6
                have a0 := H.out.cell 3 0 rfl rfl
                have a1 := H.out.cell 3 1 rfl rfl
                have b0 := H.out.cell 0 0 rfl rfl
                have b1 := H.out.cell 0 1 rfl rfl
                replace H := Lib.hid (H.out.allocBox v9.heap.size 25 [.slice Sa na ca, .slice Da ma da, .slice Sb nb cb, .slice Db mb db] rfl)
                go_wp2_with fail
                have C10 := axJoin_any (c := 2) (j : Int) (tens_two (H.out.heap 0 rfl) (ten_mk (H.out.ownInts 5 rfl).2.2 (H.out.ownInts 5 rfl).2.1 (H.out.ownInts 6 rfl).2.2 (H.out.ownInts 6 rfl).2.1) (ten_mk (H.out.ownInts 2 rfl).2.2 (H.out.ownInts 2 rfl).2.1 (H.out.ownInts 3 rfl).2.2 (H.out.ownInts 3 rfl).2.1)) (by omega)
                rw [HE6.out] at C10
                refine C10.mono ?_; rintro e10 w10 ⟨⟨u, rfl, hu⟩, hb⟩
                obtain ⟨Sq, nq, cq, Dq, mq, dq, rfl, hs, hd, _, _, _, h5⟩ := H.out.addTen hb hu
                have h6 := h5.allocBox w10.heap.size 25 [.slice Sq nq cq, .slice Dq mq dq] rfl
                clear C10 hu hb h5 hs hd a0 a1 b0 b1
                go_upto_region 35 with fail
                generalize w10.alloc (.cells #[.slice Sq nq cq, .slice Dq mq dq] 25) = v11 at *
                generalize w10.heap.size = gq at *
                replace H := Lib.hid h6
                clear h6
                have q0 := H.out.cell 0 0 rfl rfl
                have q1 := H.out.cell 0 1 rfl rfl
                have t0 := H.out.cell 24 0 rfl rfl
                have t1 := H.out.cell 24 1 rfl rfl
                have C12 := refSame_eq (ten_mk (H.out.ownInts 1 rfl).2.2 (H.out.ownInts 1 rfl).2.1 (H.out.ownInts 2 rfl).2.2 (H.out.ownInts 2 rfl).2.1) (ten_mk (H.out.ownInts 25 rfl).2.2 (H.out.ownInts 25 rfl).2.1 (H.out.ownInts 26 rfl).2.2 (H.out.ownInts 26 rfl).2.1)
                go_wp2_with fail
                refine C12.mono ?_; rintro e12 w12 ⟨rfl, hb⟩
                replace H := Lib.hid (H.out.below hb)
                clear C12 hb q0 q1 t0 t1
                go_wp2
                go_roundw
                case rel => exact ⟨j + 1, by go_num, by omega, H.out.sub [13, 14, 15, 16, 17, 18, 19, 20, 21, 22, 23, 24, 25, 26, 27, 28] rfl (by decide)⟩
                case measure => simp [intOf]; omega
              · have hjn : ns = j := by omega
                go_wp2_with fail
                refine (l5known_any _).mono ?_; rintro e9 w9 ⟨rfl, hb⟩
                replace H := Lib.hid (H.out.below hb)
                clear hb
                go_wp2
                go_ret
                exact ⟨rfl, H.out.base⟩
end Go.Proofs.Ythgpiimagbcmbaa
