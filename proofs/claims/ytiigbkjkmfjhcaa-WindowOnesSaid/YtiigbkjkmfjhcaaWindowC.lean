/- Contracts of package window. -/
import Derived.Test.YtiigbkjkmfjhcaaRef8
import Derived.Test.YtiigbkjkmfjhcaaFoldC
import Derived.Test.YtiigbkjkmfjhcaaRoom
import Derived.Test.YtiigbkjkmfjhcaaAxG
namespace Go.Proofs.Ytiigbkjkmfjhcaa
open Go.RowKit

theorem winAt_line (n N B apart i j : Nat) : winAt n N B apart i j = winAt n N B apart i 0 + j * B := by
  unfold winAt
  rw [Nat.add_zero, ← Nat.add_assoc, Nat.add_mul _ j]
  omega
/-- Where a window begins, and that its numbers lie a stride apart. -/
theorem win_first {s : List Int} {ax i : Nat} {wide apart : Int} (h : Sh.right s = true) (hx : ax < s.length) (hi : (i : Int) < Sh.size (winS s ax wide apart)) (hw : 1 ≤ wide) (ha : 1 ≤ apart) {r : Int} (hr : (Sh.placeOf (winS s ax wide apart) i)[ax]? = some r) :
    Sh.index s ((Sh.placeOf (winS s ax wide apart) i).set ax (r * apart)) = (winAt (s.getD ax 0).toNat (winN (s.getD ax 0) wide apart).toNat (winB s ax) apart.toNat i 0 : Int) := by
  obtain ⟨r', hr', _, _, _, _, hix⟩ := win_place (j := 0) h hx hi (by omega) ha
  rw [hr] at hr'; injection hr' with hr'; subst hr'
  simpa using hix
theorem win_line {how : Int} {s d : List Int} {ax i j : Nat} {wide apart : Int} (h : tenRight s d = true) (hx : ax < s.length) (hi : (i : Int) < Sh.size (winS s ax wide apart)) (hj : (j : Int) < wide) (ha : 1 ≤ apart) :
    ∃ K : Nat, winAt (s.getD ax 0).toNat (winN (s.getD ax 0) wide apart).toNat (winB s ax) apart.toNat i 0 + j * winB s ax = K ∧ K < d.length ∧ putF how (winI how s d ax wide apart i j) (d.getD K 0) = winI how s d ax wide apart i (j + 1) := by
  obtain ⟨r', hr', _, _, hl, hin, hix⟩ := win_place (j := j) (right_of h) hx hi hj ha
  obtain ⟨K, hK, hKd, _⟩ := num_at h hl hin
  rw [hix] at hK
  have hK : winAt (s.getD ax 0).toNat (winN (s.getD ax 0) wide apart).toNat (winB s ax) apart.toNat i j = K := by omega
  refine ⟨K, by rw [← winAt_line, hK], hKd, ?_⟩
  rw [← hK]; rfl
theorem winB_stride {s : List Int} {ax : Nat} {y : Int} (h : Sh.right s = true) (hy : (Sh.strides s)[ax]? = some y) : y = (winB s ax : Int) := by
  have hb := Sh.strides_bd h y (List.mem_of_getElem? hy)
  have hl : ax < s.length := by have := (List.getElem?_eq_some_iff.1 hy).1; rwa [Sh.strides_length] at this
  rw [Sh.strides_at (List.getElem?_eq_getElem hl)] at hy
  injection hy with hy
  rw [winB, hy]; omega
set_option maxRecDepth 100000 in
set_option maxHeartbeats 1600000 in
theorem wdOut_any (n wide apart : Int) (hn : Fits n) (hw : Fits wide) (ha : Fits apart) (w : World) :
    Calls Try.prog 7 #[.int .i64 n, .int .i64 wide, .int .i64 apart] w fun e w' => e = .returned (.int .i64 (winN n wide apart)) ∧ w = w' := by
  obtain ⟨n1, n2⟩ := hn
  obtain ⟨w1, w2⟩ := hw
  obtain ⟨a1, a2⟩ := ha
  by_cases g0 : wide < 1
  · have d0 : decide (wide < 1) = true := by simpa using g0
    have HX := Lib.hid (winN_no (n := n) (wide := wide) (apart := apart) (by omega))
    go_enter Try.func7, Try.ntmps7
    go_wp2
    go_ret
    exact ⟨by rw [HX.out]; rfl, rfl⟩
  have d0 : decide (wide < 1) = false := by simpa using g0
  by_cases g1 : apart < 1
  · have d1 : decide (apart < 1) = true := by simpa using g1
    have HX := Lib.hid (winN_no (n := n) (wide := wide) (apart := apart) (by omega))
    go_enter Try.func7, Try.ntmps7
    go_wp2
    go_ret
    exact ⟨by rw [HX.out]; rfl, rfl⟩
  have d1 : decide (apart < 1) = false := by simpa using g1
  by_cases g2 : n < wide
  · have d2 : decide (n < wide) = true := by simpa using g2
    have HX := Lib.hid (winN_no (n := n) (wide := wide) (apart := apart) (by omega))
    go_enter Try.func7, Try.ntmps7
    go_wp2
    go_ret
    exact ⟨by rw [HX.out]; rfl, rfl⟩
  have d2 : decide (n < wide) = false := by simpa using g2
  have HX := Lib.hid (winN_yes (n := n) (wide := wide) (apart := apart) (by omega))
  have hwA : IntKind.i64.wrap (n - wide) = n - wide := IntWalk.i64_in _ ⟨by omega, by omega⟩
  have hq0 := Int.ediv_nonneg (a := n - wide) (b := apart) (by omega) (by omega)
  have hq1 := Int.ediv_le_self (a := n - wide) apart (by omega)
  have htd : (n - wide).tdiv apart = (n - wide) / apart := Int.tdiv_eq_ediv_of_nonneg (by omega)
  obtain ⟨q, hq⟩ : ∃ q, (n - wide) / apart = q := ⟨_, rfl⟩
  rw [hq] at htd hq0 hq1 HX
  have hwB : IntKind.i64.wrap q = q := IntWalk.i64_in _ ⟨by omega, by omega⟩
  have hwC : IntKind.i64.wrap (q + 1) = q + 1 := IntWalk.i64_in _ ⟨by omega, by omega⟩
  have hne : ¬ apart = 0 := by omega
  clear hq
  go_enter Try.func7, Try.ntmps7
  go_wp2
  go_ret
  exact ⟨by rw [HX.out]; rfl, rfl⟩
set_option maxRecDepth 100000 in
set_option maxHeartbeats 6400000 in
theorem wdDo_any {w : World} {v : Value} {s d : List Int} (how ax wide apart : Int) (h : Ten w v s d) :
    Calls Try.prog 15 #[.int .i64 how, v, .int .i64 ax, .int .i64 wide, .int .i64 apart] w fun e w' => (∃ u, e = .returned (.tuple #[u, .int .i64 (winR how s d ax wide apart).1]) ∧ OTen w' w.heap.size u (winR how s d ax wide apart).2.1 (winR how s d ax wide apart).2.2) ∧ Below w.heap.size w w' := by
  by_cases hk : (howOk how && winOk wide apart) = true
  · have hk2 := hk
    rw [Bool.and_eq_true, winOk_iff] at hk2
    obtain ⟨hh, hw1, hw2, ha1, ha2⟩ := hk2
    have HK := Lib.hid hk
    have HH := Lib.hid hh
    clear hk hh
    obtain ⟨A, n, c, B, m, e, rfl, hnc, hme, hI, hJ⟩ := h
    have h1 := ((((Sep.nil w).old hJ).old hI).allocBox w.heap.size 27 [.slice A n c, .slice B m e] rfl).allocBox (w.heap.size + 1) 27 [.slice none 0 0, .slice none 0 0] (by simp)
    have hsl := hI.len
    have hnle := hI.le
    have hmle := hJ.le
    have HFD := Lib.hid hJ.fit
    have HDL := Lib.hid hJ.len
    go_enter Try.func15, Try.ntmps15
    go_upto_region 1 with fail
    generalize (w.alloc (.cells #[.slice A n c, .slice B m e] 27)).alloc (.cells #[.slice none 0 0, .slice none 0 0] 27) = W at *
    have H := Lib.hid h1
    clear h1 hI hJ 
    have HSL := Lib.hid hsl
    clear hsl
    have hT := ten_mk (H.out.oldInts 2 rfl) hnc (H.out.oldInts 3 rfl) hme
    have C1 := tRight_any hT
    have HT := Lib.hid hT
    clear hT
    have t0 := H.out.cell 1 0 rfl rfl
    have t1 := H.out.cell 1 1 rfl rfl
    have CH := fdRight_any how W
    have db1 : decide (wide < 1) = false := by simp; omega
    have db2 : decide (32 < wide) = false := by simp; omega
    have db3 : decide (apart < 1) = false := by simp; omega
    have db4 : decide (32 < apart) = false := by simp; omega
    rw [HH.out] at CH
    go_wp2_with fail
    refine CH.mono ?_; rintro e0 w0 ⟨rfl, rfl⟩
    clear CH
    go_wp2_with fail
    cases hr : tenRight s d with
    | false =>
      rw [hr] at C1
      refine C1.mono ?_; rintro e2 w2 ⟨rfl, hb2⟩
      replace H := Lib.hid (H.out.below hb2)
      have HX := Lib.hid (winR_shape (ax := ax) HK.out hr)
      have r0 := H.out.cell 0 0 rfl rfl
      have r1 := H.out.cell 0 1 rfl rfl
      have fr0 := H.out.frozenBox 0 0 rfl
      have fr1 := H.out.frozenBox 0 1 rfl
      clear hb2 hr C1 t0 t1
      go_wp2
      rw [HX.out]
      exact sep_ret2 ((H.out.setBox 0 0 (.slice none 0 0) rfl).setBox 0 1 (.slice none 0 0) rfl) 0 rfl (z := .int .i64 13) Try.results15 rfl rfl rfl ⟨⟨_, rfl, _, _, 0, 0, rfl, OwnS.nil_ _ _ _, OwnS.nil_ _ _ _⟩, ((H.out.setBox 0 0 (.slice none 0 0) rfl).setBox 0 1 (.slice none 0 0) rfl).base⟩
    | true =>
      rw [hr] at C1
      refine C1.mono ?_; rintro e2 w2 ⟨rfl, hb2⟩
      replace H := Lib.hid (H.out.below hb2)
      have HRT := Lib.hid hr
      clear hb2 hr C1 t0 t1 HT
      have hn4 : n ≤ 4 := by have := (right_len HRT.out).1; have := HSL.out; omega
      by_cases hx0 : ax < 0
      · have db5 : decide (ax < 0) = true := by simpa using hx0
        have HX := Lib.hid (winR_arg (wide := wide) (apart := apart) (ax := ax) HK.out HRT.out (by cases hc : winAx s ax with | false => rfl | true => rw [winAx_iff, HSL.out] at hc; omega))
        have t0 := H.out.cell 1 0 rfl rfl
        have t1 := H.out.cell 1 1 rfl rfl
        have r0 := H.out.cell 0 0 rfl rfl
        have r1 := H.out.cell 0 1 rfl rfl
        have fr0 := H.out.frozenBox 0 0 rfl
        have fr1 := H.out.frozenBox 0 1 rfl
        go_wp2
        rw [HX.out]
        exact sep_ret2 ((H.out.setBox 0 0 (.slice none 0 0) rfl).setBox 0 1 (.slice none 0 0) rfl) 0 rfl (z := .int .i64 1) Try.results15 rfl rfl rfl ⟨⟨_, rfl, _, _, 0, 0, rfl, OwnS.nil_ _ _ _, OwnS.nil_ _ _ _⟩, ((H.out.setBox 0 0 (.slice none 0 0) rfl).setBox 0 1 (.slice none 0 0) rfl).base⟩
      have db5 : decide (ax < 0) = false := by simpa using hx0
      by_cases hx1 : (n : Int) ≤ ax
      · have db6 : decide ((n : Int) ≤ ax) = true := by simpa using hx1
        have HX := Lib.hid (winR_arg (wide := wide) (apart := apart) (ax := ax) HK.out HRT.out (by cases hc : winAx s ax with | false => rfl | true => rw [winAx_iff, HSL.out] at hc; omega))
        have t0 := H.out.cell 1 0 rfl rfl
        have t1 := H.out.cell 1 1 rfl rfl
        have r0 := H.out.cell 0 0 rfl rfl
        have r1 := H.out.cell 0 1 rfl rfl
        have fr0 := H.out.frozenBox 0 0 rfl
        have fr1 := H.out.frozenBox 0 1 rfl
        go_wp2
        rw [HX.out]
        exact sep_ret2 ((H.out.setBox 0 0 (.slice none 0 0) rfl).setBox 0 1 (.slice none 0 0) rfl) 0 rfl (z := .int .i64 1) Try.results15 rfl rfl rfl ⟨⟨_, rfl, _, _, 0, 0, rfl, OwnS.nil_ _ _ _, OwnS.nil_ _ _ _⟩, ((H.out.setBox 0 0 (.slice none 0 0) rfl).setBox 0 1 (.slice none 0 0) rfl).base⟩
      have db6 : decide ((n : Int) ≤ ax) = false := by simpa using hx1
      obtain ⟨xx, rfl⟩ := Int.eq_ofNat_of_zero_le (by omega : 0 ≤ ax)
      have hxn : xx < n := by omega
      have HXS := Lib.hid (show xx < s.length by rw [HSL.out]; exact hxn)
      have db7 : decide (n ≤ xx) = false := by simp; omega
      clear hx0 hx1
      have hmk := run_make_noughts Try.underlying23 Try.infoInt (n := n) (by omega)
      have h1 := H.out.noughts 3 n (by omega)
      have t0 := H.out.cell 1 0 rfl rfl
      have t1 := H.out.cell 1 1 rfl rfl
      go_upto_region 8 with fail
      generalize w2.alloc (.cells (noughts n) 3) = w1 at *
      generalize w2.heap.size = gz at *
      replace H := Lib.hid h1
      clear h1 hmk t0 t1
      have t0 := H.out.cell 2 0 rfl rfl
      have t1 := H.out.cell 2 1 rfl rfl
      have HO := Lib.hid (H.out.own 0 rfl)
      have HI := Lib.hid (H.out.oldInts 3 rfl)
      go_upto_region 8 with fail
      go_wp2_with (with_reducible refine wpList_copy_ints rfl (.tmp 58) (.tmp 60) 23 23 rfl 3 Try.underlying23 Try.sizeInt HO.out rfl rfl HI.out ?_)
      intro w6 hO6 hg6
      have h6 := H.out.change (d := .own 3 (.slice (some ⟨gz, 0, none⟩) n n) n s) 0 rfl hg6 hO6 (fun k hk => .inl hk)
      replace H := Lib.hid h6
      clear h6 hO6 hg6 t0 t1 HO HI
      obtain ⟨sa, dx, hsA, _, hdx, hcx, hfdx⟩ := (H.out.oldInts 3 rfl).at_ (k := xx) hxn
      subst hsA
      have hdb := (Sh.right_iff.1 (right_of HRT.out)).2.1 dx (List.mem_of_getElem? hdx)
      have HGD := Lib.hid (show s.getD xx 0 = dx by rw [List.getD_eq_getElem?_getD, hdx]; rfl)
      obtain ⟨M, hM⟩ : ∃ M, winN dx wide apart = M := ⟨_, rfl⟩
      have hMb : 0 ≤ M ∧ M ≤ dx := by have h1 := winN_bd (n := dx) (wide := wide) (apart := apart); rw [hM] at h1; exact ⟨h1.1, h1.2 hdb.1⟩
      have hcz := (H.out.own 0 rfl).cell hdx
      have hfz := (H.out.own 0 rfl).frozen xx
      have CW := wdOut_any dx wide apart hfdx ⟨by omega, by omega⟩ ⟨by omega, by omega⟩ w6
      rw [hM] at CW
      have h2 := H.out.store 0 xx (x := M) ⟨by omega, by omega⟩ rfl
      rw [show s.set xx M = winS s xx wide apart by rw [winS, HGD.out, hM]] at h2
      have H2 := Lib.hid h2
      have HMW := Lib.hid hM
      have HDX := Lib.hid hdx
      clear h2 hdx hM
      have t0 := H.out.cell 2 0 rfl rfl
      have t1 := H.out.cell 2 1 rfl rfl
      go_upto_region 9 with fail
      clear t0 t1
      have t0 := H.out.cell 2 0 rfl rfl
      have t1 := H.out.cell 2 1 rfl rfl
      go_wp2_with fail
      refine CW.mono ?_; rintro e3 w3 ⟨rfl, rfl⟩
      clear CW
      go_upto_region 10 with fail
      generalize w6.setCell ⟨gz, xx, none⟩ (.int .i64 M) = w2 at *
      replace H := H2
      clear hcz hfz hcx t0 t1
      obtain ⟨Z, hZ⟩ : ∃ Z, winS s xx wide apart = Z := ⟨_, rfl⟩
      have hS := H.out
      rw [hZ] at hS
      have HZ := Lib.hid hZ
      replace H := Lib.hid hS
      clear hS hZ H2
      have HRS := Lib.hid (right_of HRT.out)
      have HRZ := Lib.hid (show Sh.right Z = true by rw [← HZ.out]; exact winS_right HRS.out HXS.out)
      go_wp2_with fail
      refine (fdNone_any how _).mono ?_; rintro e6 w6 ⟨rfl, rfl⟩
      go_wp2_with fail
      refine (tFillOk (noneF how) ((H.out.ownInts 0 rfl).2.2) (noneF_fits how) HRZ.out).mono ?_; rintro e4 w4 ⟨⟨u, rfl, hu⟩, hb4⟩
      obtain ⟨S1, ns, sc, D1, N, dc, rfl, hs1, hd1, hsc, hdc, hNle, h5⟩ := H.out.addTen hb4 hu
      rw [List.length_replicate] at hd1
      rw [hd1] at h5
      have HN := Lib.hid hd1
      have hN4 : N ≤ 4096 := by have := (Sh.size_bd Z).2; omega
      have h6 := h5.allocBox w4.heap.size 27 [.slice S1 ns sc, .slice D1 N dc] rfl
      clear hu hb4 h5 hd1 hs1
      go_upto_region 13 with fail
      generalize w4.alloc (.cells #[.slice S1 ns sc, .slice D1 N dc] 27) = w5 at *
      generalize w4.heap.size = gt at *
      replace H := Lib.hid h6
      clear h6
      obtain ⟨tgt, htg⟩ : ∃ x, winD how s d xx wide apart = x := ⟨_, rfl⟩
      have HTG := Lib.hid (show tgt.length = N by rw [← htg, winD_length, HZ.out]; exact HN.out)
      have HQ := Lib.hid htg
      clear htg
      have HAT := Lib.hid (show ∀ i : Nat, i < N → tgt[i]? = some (winI how s d xx wide apart i wide.toNat) from fun i hi => by rw [← HQ.out, winD, HZ.out, gen_at (by have := HN.out; omega)])
      have t0 := H.out.cell 5 0 rfl rfl
      have t1 := H.out.cell 5 1 rfl rfl
      have C6 := strides_any (c := c) (H.out.oldInts 6 rfl)
      rw [if_pos HRS.out] at C6
      go_wp2_with fail
      refine C6.mono ?_; rintro e6 w6 ⟨⟨A6, n6, c6, rfl, hc6, hI6⟩, hb6⟩
      clear C6 t0 t1
      replace H := Lib.hid (H.out.below hb6)
      have hn6 : n = n6 := by have h1 := hI6.len; rw [Sh.strides_length] at h1; have := HSL.out; omega
      subst hn6
      obtain ⟨ta, y, htA, _, hy, hcy, hfy⟩ := hI6.at_ (k := xx) hxn
      subst htA
      have hyb := winB_stride HRS.out hy
      subst hyb
      obtain ⟨Y, hY⟩ : ∃ Y, winB s xx = Y := ⟨_, rfl⟩
      rw [hY] at hcy
      have HY := Lib.hid hY
      clear hI6 hb6 hy hfy hY
      go_upto_region 14 with fail
      clear hcy
      have o0 := H.out.cell 0 0 rfl rfl
      have o1 := H.out.cell 0 1 rfl rfl
      go_wp2_with fail
      clear o0 o1
      go_loopw [93] (fun kv wr => ∃ i : Nat, kv = .int .i64 i ∧ i ≤ N ∧ Sep w wr [.box gt 27 [.slice S1 ns sc, .slice D1 N dc], .own 3 (.slice S1 ns sc) ns Z, .own 2 (.slice D1 N dc) N (mix tgt (List.replicate N (noneF how)) i), .own 3 (.slice (some ⟨gz, 0, none⟩) n n) n Z, .box (w.heap.size + 1) 27 [.slice none 0 0, .slice none 0 0], .box w.heap.size 27 [.slice (some sa) n c, .slice B m e], .ints (some sa) n s, .ints B m d]) (fun kv _ => N - (intOf kv).toNat)
      case atStart => exact ⟨0, rfl, by omega, by rw [mix_zero]; exact H.out⟩
      case round =>
        clear H
        obtain ⟨i, rfl, hi, hS⟩ := hrel
        have H := Lib.hid hS
        clear hS
        by_cases hli : i < N
        · have hiz : (i : Int) < Sh.size Z := by have := HN.out; omega
          have hd3 : decide (i < N) = true := by simpa using hli
          obtain ⟨w9, rfl⟩ : ∃ w9 : World, w9 = wr := ⟨_, rfl⟩
          have HIZ := Lib.hid (show (i : Int) < Sh.size (winS s xx wide apart) by rw [HZ.out]; exact hiz)
          obtain ⟨r, hr, hr0, hr1, _⟩ := win_place (i := i) (j := 0) (wide := wide) (apart := apart) HRS.out HXS.out HIZ.out (by omega) ha1
          rw [HGD.out, HMW.out] at hr1
          have hfi := win_first HRS.out HXS.out HIZ.out hw1 ha1 hr
          rw [HZ.out] at hr hfi
          have HL := Lib.hid (fun (j : Nat) (hj : (j : Int) < wide) => win_line (how := how) (d := d) (i := i) (j := j) HRT.out HXS.out HIZ.out hj ha1)
          obtain ⟨F0, hF0⟩ : ∃ F0, winAt (s.getD xx 0).toNat (winN (s.getD xx 0) wide apart).toNat Y apart.toNat i 0 = F0 := ⟨_, rfl⟩
          rw [HY.out, hF0] at hfi
          have HL2 := HL.out
          simp only [HY.out, hF0] at HL2
          replace HL := Lib.hid HL2
          clear HL2 hF0
          go_wp2_with fail
          refine (place_own i ((H.out.ownInts 3 rfl).2.2) ⟨by omega, by omega⟩).mono ?_; rintro e7 w7 ⟨⟨v7, n7, rfl, hO⟩, hb7⟩
          obtain ⟨A7, c7, rfl, hc7, _, _⟩ := hO.form
          have hp7 : n = n7 := by have := hO.len; have h2 := (placeOf_of hiz).2.1; rw [← HZ.out, winS_length] at h2; rw [← HZ.out] at this; have := HSL.out; omega
          subst hp7
          obtain ⟨P, hP⟩ : ∃ P, Sh.placeOf Z i = P := ⟨_, rfl⟩
          rw [hP] at hO hr hfi
          replace H := Lib.hid (H.out.addOwn hb7 hO)
          clear hO hb7 hP
          obtain ⟨gp, cb, hv, hO⟩ := (H.out.ownS 0 rfl).own (by omega)
          injection hv with hv1 _ hv3
          subst hv1
          subst hv3
          have hcp := hO.cell hr
          have hfp := hO.frozen xx
          clear hO
          have hra : r * apart ≤ 32 * 32 := Int.mul_le_mul (by omega) ha2 (by omega) (by omega)
          have hra0 : 0 ≤ r * apart := Int.mul_nonneg hr0 (by omega)
          obtain ⟨Q, hQ⟩ : ∃ Q, r * apart = Q := ⟨_, rfl⟩
          rw [hQ] at hfi hra hra0
          have hwq : IntKind.i64.wrap (r * apart) = Q := by rw [hQ]; exact IntWalk.i64_in _ ⟨by omega, by omega⟩
          have h9 := H.out.store 0 xx (x := Q) ⟨by omega, by omega⟩ rfl
          have H9 := Lib.hid h9
          clear h9 hr hQ
          go_upto_region 19 with fail
          generalize w7.setCell ⟨gp, xx, none⟩ (.int .i64 Q) = wz at *
          replace H := H9
          clear H9 hcp hfp hwq
          have t0 := H.out.cell 6 0 rfl rfl
          have t1 := H.out.cell 6 1 rfl rfl
          have CI := index_any (c := c) (d := c7) (H.out.oldInts 7 rfl) ((H.out.ownInts 0 rfl).2.2)
          rw [hfi] at CI
          clear hfi
          go_wp2_with fail
          refine CI.mono ?_; rintro e8 w8 ⟨rfl, rfl⟩
          clear CI
          replace H := Lib.hid (H.out.tail_)
          go_wp2_with fail
          clear t0 t1
          go_loopw [111] (fun jv wr => ∃ J : Nat, jv = .int .i64 J ∧ J ≤ wide.toNat ∧ Sep w wr [.box gt 27 [.slice S1 ns sc, .slice D1 N dc], .own 3 (.slice S1 ns sc) ns Z, .own 2 (.slice D1 N dc) N ((mix tgt (List.replicate N (noneF how)) i).set i (winI how s d xx wide apart i J)), .own 3 (.slice (some ⟨gz, 0, none⟩) n n) n Z, .box (w.heap.size + 1) 27 [.slice none 0 0, .slice none 0 0], .box w.heap.size 27 [.slice (some sa) n c, .slice B m e], .ints (some sa) n s, .ints B m d]) (fun jv _ => wide.toNat - (intOf jv).toNat)
          case atStart => exact ⟨0, rfl, by omega, by rw [show winI how s d xx wide apart i 0 = noneF how from rfl, set_same_ (mix_rep HTG.out hli)]; exact H.out⟩
          case round =>
            clear H
            obtain ⟨J, rfl, hJ, hS⟩ := hrel
            have H := Lib.hid hS
            clear hS
            by_cases hlj : (J : Int) < wide
            · have hd4 : decide ((J : Int) < wide) = true := by simpa using hlj
              obtain ⟨K, hK, hKd, hst⟩ := HL.out J hlj
              have hKm : K < m := by have := HDL.out; omega
              have hm4 : m ≤ 4096 := by have := (right_len HRT.out).2; have := HDL.out; omega
              obtain ⟨jy, hjy⟩ : ∃ jy, J * Y = jy := ⟨_, rfl⟩
              rw [hjy] at hK
              have hy1 : IntKind.i64.wrap ((J : Int) * (Y : Int)) = (jy : Int) := by rw [← Int.natCast_mul, hjy]; exact IntWalk.i64_in _ ⟨by omega, by omega⟩
              have hy2 : IntKind.i64.wrap ((F0 : Int) + (jy : Int)) = (K : Int) := by rw [← hK, Int.natCast_add]; exact IntWalk.i64_in _ ⟨by omega, by omega⟩
              obtain ⟨gb, cb, hv, hO⟩ := (H.out.ownS 2 rfl).own (by omega)
              injection hv with hv1 _ hv3
              subst hv1
              subst hv3
              clear hO
              obtain ⟨ga, u, hgA, _, hu, hcu, hfu⟩ := (H.out.oldInts 7 rfl).at_ (k := K) hKm
              subst hgA
              rw [show d.getD K 0 = u by rw [List.getD_eq_getElem?_getD, hu]; rfl] at hst
              obtain ⟨V, hV⟩ : ∃ V, winI how s d xx wide apart i J = V := ⟨_, rfl⟩
              have hfV : Fits V := by rw [← hV]; exact winV_fits HFD.out _ _ _ _ _ _
              rw [hV] at hst
              have hS := H.out
              rw [hV] at hS
              replace H := Lib.hid hS
              clear hS hV
              have HST := Lib.hid (show ((mix tgt (List.replicate N (noneF how)) i).set i V).set i (putF how V u) = (mix tgt (List.replicate N (noneF how)) i).set i (winI how s d xx wide apart i (J + 1)) by rw [List.set_set, hst])
              have hzv : ((mix tgt (List.replicate N (noneF how)) i).set i V)[i]? = some V := by rw [List.getElem?_set_self (by rw [mix_length (by rw [HTG.out, List.length_replicate]), List.length_replicate]; exact hli)]
              have hcz1 := (H.out.own 2 rfl).cell hzv
              have hff := (H.out.own 2 rfl).frozen i
              have h9 := H.out.store 2 i (x := putF how V u) (putF_fits how hfV hfu) rfl
              rw [HST.out] at h9
              have HS9 := Lib.hid h9.drew
              have o0 := H.out.cell 0 0 rfl rfl
              have o1 := H.out.cell 0 1 rfl rfl
              have t0 := H.out.cell 5 0 rfl rfl
              have t1 := H.out.cell 5 1 rfl rfl
              have CP := fun w => fdStep_any how V u w
              clear h9 hst hu hfV hfu hzv hK hjy hKd
              go_upto_region 23 with fail
              have hcz2 : wr.drew.cell? ⟨gb, i, none⟩ = some (.int .i64 V) := hcz1
              have hff1 : wr.drew.frozen? ⟨gb, i, none⟩ = false := hff
              refine wp_region_still_tail 20 (by kernel_rfl) (by kernel_rfl) ?_
              simp only [List.take_succ_cons, List.take_zero, List.drop_succ_cons, List.drop_zero]
              repeat still_step
              still_call ((CP _).mono fun _ _ ⟨h, g⟩ => ⟨h, g.symm⟩)
              repeat still_step
              refine wpStill_nil ?_
              change wpList _ _ _ _ _ wr.drew
              clear o0 o1 t0 t1
              go_wp2
              go_roundw
              case rel => exact ⟨J + 1, by go_num, by omega, HS9.out⟩
              case measure => simp [intOf]; omega
            · have hjm : J = wide.toNat := by omega
              have hd4 : decide ((J : Int) < wide) = false := by simpa using hlj
              have hS := H.out
              rw [hjm, mix_step HTG.out (HAT.out i hli)] at hS
              replace H := Lib.hid hS
              clear hS hjm
              go_wp2
              go_roundw
              case rel => exact ⟨i + 1, by go_num, by omega, H.out⟩
              case measure => simp [intOf]; omega
        · have hin : N = i := by omega
          subst hin
          have hS := H.out
          rw [mix_end HTG.out, ← HQ.out] at hS
          replace H := Lib.hid hS
          clear hS
          have HQ3 := Lib.hid (show winR how s d xx wide apart = (0, Z, winD how s d xx wide apart) by rw [winR_ok HK.out HRT.out HXS.out, HZ.out])
          have o0 := H.out.cell 0 0 rfl rfl
          have o1 := H.out.cell 0 1 rfl rfl
          have r0 := H.out.cell 4 0 rfl rfl
          have r1 := H.out.cell 4 1 rfl rfl
          have fr0 := H.out.frozenBox 4 0 rfl
          have fr1 := H.out.frozenBox 4 1 rfl
          go_wp2
          rw [HQ3.out]
          exact sep_ret2 ((H.out.setBox 4 0 (.slice S1 ns sc) rfl).setBox 4 1 (.slice D1 N dc) rfl) 4 rfl (z := .int .i64 0) Try.results15 rfl rfl rfl ⟨⟨_, rfl, _, _, ns, N, rfl, ((H.out.setBox 4 0 (.slice S1 ns sc) rfl).setBox 4 1 (.slice D1 N dc) rfl).ownS 1 rfl, ((H.out.setBox 4 0 (.slice S1 ns sc) rfl).setBox 4 1 (.slice D1 N dc) rfl).ownS 2 rfl⟩, ((H.out.setBox 4 0 (.slice S1 ns sc) rfl).setBox 4 1 (.slice D1 N dc) rfl).base⟩
  · have hkf : (howOk how && winOk wide apart) = false := by simpa using hk
    have HX := Lib.hid (winR_how (s := s) (d := d) (ax := ax) hkf)
    obtain ⟨A, n, c, B, m, e, rfl, hnc, hme, hI, hJ⟩ := h
    have h1 := ((Sep.nil w).allocBox w.heap.size 27 [.slice A n c, .slice B m e] rfl).allocBox (w.heap.size + 1) 27 [.slice none 0 0, .slice none 0 0] (by simp)
    have C1 := fdRight_any how ((w.alloc (.cells #[.slice A n c, .slice B m e] 27)).alloc (.cells #[.slice none 0 0, .slice none 0 0] 27))
    cases hh : howOk how with
    | false =>
      rw [hh] at C1
      go_enter Try.func15, Try.ntmps15
      go_upto_region 1 with fail
      generalize (w.alloc (.cells #[.slice A n c, .slice B m e] 27)).alloc (.cells #[.slice none 0 0, .slice none 0 0] 27) = W at *
      have H := Lib.hid h1
      clear h1 hh hkf hk
      go_wp2_with fail
      refine C1.mono ?_; rintro e1 w1 ⟨rfl, rfl⟩
      have r0 := H.out.cell 0 0 rfl rfl
      have r1 := H.out.cell 0 1 rfl rfl
      have fr0 := H.out.frozenBox 0 0 rfl
      have fr1 := H.out.frozenBox 0 1 rfl
      clear C1
      go_wp2
      rw [HX.out]
      exact sep_ret2 ((H.out.setBox 0 0 (.slice none 0 0) rfl).setBox 0 1 (.slice none 0 0) rfl) 0 rfl (z := .int .i64 1) Try.results15 rfl rfl rfl ⟨⟨_, rfl, _, _, 0, 0, rfl, OwnS.nil_ _ _ _, OwnS.nil_ _ _ _⟩, ((H.out.setBox 0 0 (.slice none 0 0) rfl).setBox 0 1 (.slice none 0 0) rfl).base⟩
    | true =>
      rw [hh] at C1
      have hwk : ¬ (1 ≤ wide ∧ wide ≤ 32 ∧ 1 ≤ apart ∧ apart ≤ 32) := fun hc => by rw [hh, winOk_iff.2 hc] at hkf; cases hkf
      clear hh hkf hk
      by_cases g0 : wide < 1
      · have dg0 : decide (wide < 1) = true := by simpa using g0
        go_enter Try.func15, Try.ntmps15
        go_upto_region 1 with fail
        generalize (w.alloc (.cells #[.slice A n c, .slice B m e] 27)).alloc (.cells #[.slice none 0 0, .slice none 0 0] 27) = W at *
        have H := Lib.hid h1
        clear h1 hwk
        go_wp2_with fail
        refine C1.mono ?_; rintro e1 w1 ⟨rfl, rfl⟩
        have r0 := H.out.cell 0 0 rfl rfl
        have r1 := H.out.cell 0 1 rfl rfl
        have fr0 := H.out.frozenBox 0 0 rfl
        have fr1 := H.out.frozenBox 0 1 rfl
        clear C1
        go_wp2
        rw [HX.out]
        exact sep_ret2 ((H.out.setBox 0 0 (.slice none 0 0) rfl).setBox 0 1 (.slice none 0 0) rfl) 0 rfl (z := .int .i64 1) Try.results15 rfl rfl rfl ⟨⟨_, rfl, _, _, 0, 0, rfl, OwnS.nil_ _ _ _, OwnS.nil_ _ _ _⟩, ((H.out.setBox 0 0 (.slice none 0 0) rfl).setBox 0 1 (.slice none 0 0) rfl).base⟩
      have dg0 : decide (wide < 1) = false := by simpa using g0
      by_cases g1 : 32 < wide
      · have dg1 : decide (32 < wide) = true := by simpa using g1
        go_enter Try.func15, Try.ntmps15
        go_upto_region 1 with fail
        generalize (w.alloc (.cells #[.slice A n c, .slice B m e] 27)).alloc (.cells #[.slice none 0 0, .slice none 0 0] 27) = W at *
        have H := Lib.hid h1
        clear h1 hwk
        go_wp2_with fail
        refine C1.mono ?_; rintro e1 w1 ⟨rfl, rfl⟩
        have r0 := H.out.cell 0 0 rfl rfl
        have r1 := H.out.cell 0 1 rfl rfl
        have fr0 := H.out.frozenBox 0 0 rfl
        have fr1 := H.out.frozenBox 0 1 rfl
        clear C1
        go_wp2
        rw [HX.out]
        exact sep_ret2 ((H.out.setBox 0 0 (.slice none 0 0) rfl).setBox 0 1 (.slice none 0 0) rfl) 0 rfl (z := .int .i64 1) Try.results15 rfl rfl rfl ⟨⟨_, rfl, _, _, 0, 0, rfl, OwnS.nil_ _ _ _, OwnS.nil_ _ _ _⟩, ((H.out.setBox 0 0 (.slice none 0 0) rfl).setBox 0 1 (.slice none 0 0) rfl).base⟩
      have dg1 : decide (32 < wide) = false := by simpa using g1
      by_cases g2 : apart < 1
      · have dg2 : decide (apart < 1) = true := by simpa using g2
        go_enter Try.func15, Try.ntmps15
        go_upto_region 1 with fail
        generalize (w.alloc (.cells #[.slice A n c, .slice B m e] 27)).alloc (.cells #[.slice none 0 0, .slice none 0 0] 27) = W at *
        have H := Lib.hid h1
        clear h1 hwk
        go_wp2_with fail
        refine C1.mono ?_; rintro e1 w1 ⟨rfl, rfl⟩
        have r0 := H.out.cell 0 0 rfl rfl
        have r1 := H.out.cell 0 1 rfl rfl
        have fr0 := H.out.frozenBox 0 0 rfl
        have fr1 := H.out.frozenBox 0 1 rfl
        clear C1
        go_wp2
        rw [HX.out]
        exact sep_ret2 ((H.out.setBox 0 0 (.slice none 0 0) rfl).setBox 0 1 (.slice none 0 0) rfl) 0 rfl (z := .int .i64 1) Try.results15 rfl rfl rfl ⟨⟨_, rfl, _, _, 0, 0, rfl, OwnS.nil_ _ _ _, OwnS.nil_ _ _ _⟩, ((H.out.setBox 0 0 (.slice none 0 0) rfl).setBox 0 1 (.slice none 0 0) rfl).base⟩
      have dg2 : decide (apart < 1) = false := by simpa using g2
      by_cases g3 : 32 < apart
      · have dg3 : decide (32 < apart) = true := by simpa using g3
        go_enter Try.func15, Try.ntmps15
        go_upto_region 1 with fail
        generalize (w.alloc (.cells #[.slice A n c, .slice B m e] 27)).alloc (.cells #[.slice none 0 0, .slice none 0 0] 27) = W at *
        have H := Lib.hid h1
        clear h1 hwk
        go_wp2_with fail
        refine C1.mono ?_; rintro e1 w1 ⟨rfl, rfl⟩
        have r0 := H.out.cell 0 0 rfl rfl
        have r1 := H.out.cell 0 1 rfl rfl
        have fr0 := H.out.frozenBox 0 0 rfl
        have fr1 := H.out.frozenBox 0 1 rfl
        clear C1
        go_wp2
        rw [HX.out]
        exact sep_ret2 ((H.out.setBox 0 0 (.slice none 0 0) rfl).setBox 0 1 (.slice none 0 0) rfl) 0 rfl (z := .int .i64 1) Try.results15 rfl rfl rfl ⟨⟨_, rfl, _, _, 0, 0, rfl, OwnS.nil_ _ _ _, OwnS.nil_ _ _ _⟩, ((H.out.setBox 0 0 (.slice none 0 0) rfl).setBox 0 1 (.slice none 0 0) rfl).base⟩
      have dg3 : decide (32 < apart) = false := by simpa using g3
      exact absurd ⟨by omega, by omega, by omega, by omega⟩ hwk
end Go.Proofs.Ytiigbkjkmfjhcaa
