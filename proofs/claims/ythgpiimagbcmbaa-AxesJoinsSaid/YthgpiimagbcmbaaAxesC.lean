/- Contracts of package axes. -/
import Derived.Test.YthgpiimagbcmbaaAxL
import Derived.Test.YthgpiimagbcmbaaRef4
namespace Go.Proofs.Ythgpiimagbcmbaa
open Go.RowKit

theorem Sep.swap {w0 w : World} {c d : Chunk} {l : List Chunk} (h : Sep w0 w (c :: d :: l)) : Sep w0 w (d :: c :: l) :=
  Sep.cons_ h.1 (h.2.1 1 d rfl) h.less1.2.1 (fun i e hi => by
    cases i with
    | zero => simp at hi; subst hi; exact (h.2.2 0 1 _ d (by omega) rfl rfl).symm
    | succ i => exact h.2.2 1 (i + 2) d e (by omega) rfl (by simpa using hi)) h.less1.2.2
theorem Sep.noughts2 {w0 w : World} {l : List Chunk} (h : Sep w0 w l) (e : TypeId) (n : Nat) (hn : n ≤ 17592186044000) :
    Sep w0 ((w.alloc (.cells (Go.Proofs.Ythgpiimagbcmbaa.noughts n) e)).alloc (.cells (Go.Proofs.Ythgpiimagbcmbaa.noughts n) e)) (.own e (.slice (some ⟨w.heap.size + 1, 0, none⟩) n n) n (List.replicate n 0) :: .own e (.slice (some ⟨w.heap.size, 0, none⟩) n n) n (List.replicate n 0) :: l) := by
  have := (h.noughts e n hn).noughts e n hn
  rwa [show (w.alloc (.cells (Go.Proofs.Ythgpiimagbcmbaa.noughts n) e)).heap.size = w.heap.size + 1 by simp] at this

set_option maxRecDepth 100000 in
set_option maxHeartbeats 6400000 in
theorem axSlice_any {w : World} {v : Value} {Af Az : Option Addr} {nf cf nz cz : Nat} {s d f z : List Int} (h : Ten w v s d) (hF : Ints w Af nf f) (hZ : Ints w Az nz z) :
    Calls Try.prog 15 #[v, .slice Af nf cf, .slice Az nz cz] w fun e w' => (∃ u, e = .returned (.tuple #[u, .int .i64 (cutR s d f z).1]) ∧ OTen w' w.heap.size u (cutR s d f z).2.1 (cutR s d f z).2.2) ∧ Below w.heap.size w w' := by
  obtain ⟨A, n, c, B, m, e, rfl, hnc, hme, hI, hJ⟩ := h
  have h1 := ((((((Sep.nil w).old hZ).old hF).old hJ).old hI).allocBox w.heap.size 25 [.slice A n c, .slice B m e] rfl).allocBox (w.heap.size + 1) 25 [.slice none 0 0, .slice none 0 0] (by simp)
  have hsl := hI.len
  have hnle := hI.le
  have hmle := hJ.le
  have HFD := Lib.hid hJ.fit
  have HDL := Lib.hid hJ.len
  have hlf := hF.len
  have hlef := hF.le
  have hlz := hZ.len
  have hlez := hZ.le
  go_enter Try.func15, Try.ntmps15
  go_upto_region 1 with fail
  generalize (w.alloc (.cells #[.slice A n c, .slice B m e] 25)).alloc (.cells #[.slice none 0 0, .slice none 0 0] 25) = W at *
  have H := Lib.hid h1
  clear h1 hI hJ hF hZ
  have HSL := Lib.hid hsl
  clear hsl
  have HLf := Lib.hid hlf
  clear hlf
  have HLz := Lib.hid hlz
  clear hlz
  have hT := ten_mk (H.out.oldInts 2 rfl) hnc (H.out.oldInts 3 rfl) hme
  have C1 := tRight_any hT
  have HT := Lib.hid hT
  clear hT
  have t0 := H.out.cell 1 0 rfl rfl
  have t1 := H.out.cell 1 1 rfl rfl
  go_wp2_with fail
  cases hr : tenRight s d with
  | false =>
    rw [hr] at C1
    refine C1.mono ?_; rintro e2 w2 ⟨rfl, hb2⟩
    replace H := Lib.hid (H.out.below hb2)
    have HX := Lib.hid (cutR_shape (f := f) (z := z) hr)
    have r0 := H.out.cell 0 0 rfl rfl
    have r1 := H.out.cell 0 1 rfl rfl
    have fr0 := H.out.frozenBox 0 0 rfl
    have fr1 := H.out.frozenBox 0 1 rfl
    clear hb2 hr C1 t0 t1
    go_wp2
    rw [HX.out]
    exact sep_ret2 ((H.out.setBox 0 0 (.slice none 0 0) rfl).setBox 0 1 (.slice none 0 0) rfl) 0 rfl (z := .int .i64 13) Try.results15 rfl rfl rfl ⟨⟨_, rfl, _, _, 0, 0, rfl, OwnS.nil_ _ _ _, OwnS.nil_ _ _ _⟩, ((H.out.setBox 0 0 (.slice none 0 0) rfl).setBox 0 1 (.slice none 0 0) rfl).base⟩
  | true =>
    rw [hr] at C1
    refine C1.mono ?_; rintro e2 w2 ⟨rfl, hb2⟩
    replace H := Lib.hid (H.out.below hb2)
    have HRT := Lib.hid hr
    have HRS := Lib.hid (right_of hr)
    clear hb2 hr C1 t0 t1 HT
    have hn4 : n ≤ 4 := by have := (right_len HRT.out).1; have := HSL.out; omega
    have t0 := H.out.cell 1 0 rfl rfl
    have t1 := H.out.cell 1 1 rfl rfl
    have C2 := axWithin_any (cf := cf) (cz := cz) (cs := c) (H.out.oldInts 4 rfl) (H.out.oldInts 5 rfl) (H.out.oldInts 2 rfl) (Sh.right_iff.1 HRS.out).2.1
    go_wp2_with fail
    cases hc : cutOk s f z with
    | false =>
      rw [hc] at C2
      refine C2.mono ?_; rintro e3 w3 ⟨rfl, q, rfl⟩
      replace H := Lib.hid (H.out.drewN q)
      have HX := Lib.hid (cutR_arg HRT.out hc)
      clear hc C2 t0 t1
      have r0 := H.out.cell 0 0 rfl rfl
      have r1 := H.out.cell 0 1 rfl rfl
      have fr0 := H.out.frozenBox 0 0 rfl
      have fr1 := H.out.frozenBox 0 1 rfl
      go_wp2
      rw [HX.out]
      exact sep_ret2 ((H.out.setBox 0 0 (.slice none 0 0) rfl).setBox 0 1 (.slice none 0 0) rfl) 0 rfl (z := .int .i64 1) Try.results15 rfl rfl rfl ⟨⟨_, rfl, _, _, 0, 0, rfl, OwnS.nil_ _ _ _, OwnS.nil_ _ _ _⟩, ((H.out.setBox 0 0 (.slice none 0 0) rfl).setBox 0 1 (.slice none 0 0) rfl).base⟩
    | true =>
      rw [hc] at C2
      refine C2.mono ?_; rintro e3 w3 ⟨rfl, q, rfl⟩
      replace H := Lib.hid (H.out.drewN q)
      have HOK := Lib.hid hc
      clear hc C2 t0 t1
      generalize w2.drewN q = w3 at *
      obtain ⟨hzr, hnf⟩ := cut_fine HRS.out HOK.out
      obtain ⟨hld, hcd⟩ := cut_lead HRT.out HOK.out
      have HZR := Lib.hid hzr
      have HNF := Lib.hid hnf
      have HLD := Lib.hid hld
      obtain ⟨hfl, hzl⟩ := cutOk_len HOK.out
      have h1 : nf = n := by have := HSL.out; have := HLf.out; omega
      have h2 : nz = n := by have := HSL.out; have := HLz.out; omega
      subst h1
      subst h2
      have HQ := Lib.hid (show cutR s d f z = (0, z, takeD d z f (Sh.strides s)) from by rw [cutR_ok HRT.out HOK.out, hcd])
      clear hzr hnf hld hcd hfl hzl
      go_upto_region 5 with fail
      have t0 := H.out.cell 1 0 rfl rfl
      have t1 := H.out.cell 1 1 rfl rfl
      have C3 := Lib.hid (strides_mine (w := w3.drew) (c := c) (H.out.drew.oldInts 2 rfl) HRS.out)
      go_region_held3 (fun w' => w'.cell? ⟨w.heap.size, 0, none⟩ = some (.slice A nz c) ∧ w'.cell? ⟨w.heap.size, 1, none⟩ = some (.slice B m e)) (go_keep)
        (first | (go_at_call 31; refine (taken_any (ten_mk (H5.out.oldInts 3 rfl) hnc (H5.out.oldInts 4 rfl) hme) (H5.out.oldInts 6 rfl) (H5.out.oldInts 5 rfl) (H5.out.ownInts 0 rfl).2.2 HZR.out HNF.out (Sh.strides_bd HRS.out) HLD.out).mono ?_; rintro e7 w7 ⟨⟨u7, rfl, hu7⟩, hb7⟩; obtain ⟨S7, ns7, sc7, D7, nd7, dc7, rfl, hs7, hd7, hsc7, hdc7, hle7, h7⟩ := H5.out.addTen hb7 hu7; have H7 := Lib.hid h7; have m0 := H7.out.cell 4 0 rfl rfl; have m1 := H7.out.cell 4 1 rfl rfl; have r0 := H7.out.cell 3 0 rfl rfl; have r1 := H7.out.cell 3 1 rfl rfl; have fr0 := H7.out.frozenBox 3 0 rfl; have fr1 := H7.out.frozenBox 3 1 rfl; have H8 := Lib.hid ((H7.out.setBox 3 0 (.slice S7 ns7 sc7) rfl).setBox 3 1 (.slice D7 nd7 dc7) rfl); have k0 : ((w7.setCell ⟨w.heap.size + 1, 0, none⟩ (.slice S7 ns7 sc7)).setCell ⟨w.heap.size + 1, 1, none⟩ (.slice D7 nd7 dc7)).cell? ⟨w.heap.size, 0, none⟩ = some (.slice A nz c) := H8.out.cell 4 0 rfl rfl; have k1 : ((w7.setCell ⟨w.heap.size + 1, 0, none⟩ (.slice S7 ns7 sc7)).setCell ⟨w.heap.size + 1, 1, none⟩ (.slice D7 nd7 dc7)).cell? ⟨w.heap.size, 1, none⟩ = some (.slice B m e) := H8.out.cell 4 1 rfl rfl; clear hu7 hb7 h7 hs7 hd7) | (go_at_call 30; refine C3.out.mono ?_; rintro e5 w5 ⟨⟨v5, n5, rfl, hO5⟩, hb5⟩; obtain ⟨A5, c5, rfl, hc5, _, _⟩ := hO5.form; have hn5 : nz = n5 := (by have := hO5.len; rw [Sh.strides_length] at this; have := HSL.out; omega); subst hn5; have H5 := Lib.hid (H.out.drew.addOwn hb5 hO5); have j0 := H5.out.cell 2 0 rfl rfl; have j1 := H5.out.cell 2 1 rfl rfl; clear hO5 hb5))
      go_wp2
      rw [HQ.out]
      exact sep_ret2 H8.out 3 rfl (z := .int .i64 0) Try.results15 rfl rfl rfl ⟨⟨_, rfl, _, _, ns7, nd7, rfl, H8.out.ownS 0 rfl, H8.out.ownS 1 rfl⟩, H8.out.base⟩
set_option maxRecDepth 100000 in
set_option maxHeartbeats 6400000 in
theorem axTurn_any {w : World} {v : Value} {Aa : Option Addr} {na ca : Nat} {s d a : List Int} (h : Ten w v s d) (hA : Ints w Aa na a) :
    Calls Try.prog 12 #[v, .slice Aa na ca] w fun e w' => (∃ u, e = .returned (.tuple #[u, .int .i64 (turnR s d a).1]) ∧ OTen w' w.heap.size u (turnR s d a).2.1 (turnR s d a).2.2) ∧ Below w.heap.size w w' := by
  obtain ⟨A, n, c, B, m, e, rfl, hnc, hme, hI, hJ⟩ := h
  have h1 := (((((Sep.nil w).old hA).old hJ).old hI).allocBox w.heap.size 25 [.slice A n c, .slice B m e] rfl).allocBox (w.heap.size + 1) 25 [.slice none 0 0, .slice none 0 0] (by simp)
  have hsl := hI.len
  have hnle := hI.le
  have hmle := hJ.le
  have HFD := Lib.hid hJ.fit
  have HDL := Lib.hid hJ.len
  have hla := hA.len
  have hlea := hA.le
  go_enter Try.func12, Try.ntmps12
  go_upto_region 1 with fail
  generalize (w.alloc (.cells #[.slice A n c, .slice B m e] 25)).alloc (.cells #[.slice none 0 0, .slice none 0 0] 25) = W at *
  have H := Lib.hid h1
  clear h1 hI hJ hA
  have HSL := Lib.hid hsl
  clear hsl
  have HLa := Lib.hid hla
  clear hla
  have hT := ten_mk (H.out.oldInts 2 rfl) hnc (H.out.oldInts 3 rfl) hme
  have C1 := tRight_any hT
  have HT := Lib.hid hT
  clear hT
  have t0 := H.out.cell 1 0 rfl rfl
  have t1 := H.out.cell 1 1 rfl rfl
  go_wp2_with fail
  cases hr : tenRight s d with
  | false =>
    rw [hr] at C1
    refine C1.mono ?_; rintro e2 w2 ⟨rfl, hb2⟩
    replace H := Lib.hid (H.out.below hb2)
    have HX := Lib.hid (turnR_shape (a := a) hr)
    have r0 := H.out.cell 0 0 rfl rfl
    have r1 := H.out.cell 0 1 rfl rfl
    have fr0 := H.out.frozenBox 0 0 rfl
    have fr1 := H.out.frozenBox 0 1 rfl
    clear hb2 hr C1 t0 t1
    go_wp2
    rw [HX.out]
    exact sep_ret2 ((H.out.setBox 0 0 (.slice none 0 0) rfl).setBox 0 1 (.slice none 0 0) rfl) 0 rfl (z := .int .i64 13) Try.results12 rfl rfl rfl ⟨⟨_, rfl, _, _, 0, 0, rfl, OwnS.nil_ _ _ _, OwnS.nil_ _ _ _⟩, ((H.out.setBox 0 0 (.slice none 0 0) rfl).setBox 0 1 (.slice none 0 0) rfl).base⟩
  | true =>
    rw [hr] at C1
    refine C1.mono ?_; rintro e2 w2 ⟨rfl, hb2⟩
    replace H := Lib.hid (H.out.below hb2)
    have HRT := Lib.hid hr
    have HRS := Lib.hid (right_of hr)
    clear hb2 hr C1 t0 t1 HT
    have hn4 : n ≤ 4 := by have := (right_len HRT.out).1; have := HSL.out; omega
    have t0 := H.out.cell 1 0 rfl rfl
    have t1 := H.out.cell 1 1 rfl rfl
    have C2 := eachOnce_any (s := s) (c := ca) (H.out.oldInts 4 rfl) (by have := HSL.out; omega)
    rw [HSL.out] at C2
    go_wp2_with fail
    refine C2.mono ?_; rintro e3 w3 ⟨⟨b3, rfl, hb⟩, hb3⟩
    replace H := Lib.hid (H.out.below hb3)
    have HB := Lib.hid hb
    clear hb hb3 C2 t0 t1
    cases b3
    case false =>
      have HX := Lib.hid (turnR_arg HRT.out (fun hc => by have := HB.out.2 hc; cases this))
      have r0 := H.out.cell 0 0 rfl rfl
      have r1 := H.out.cell 0 1 rfl rfl
      have fr0 := H.out.frozenBox 0 0 rfl
      have fr1 := H.out.frozenBox 0 1 rfl
      go_wp2
      rw [HX.out]
      exact sep_ret2 ((H.out.setBox 0 0 (.slice none 0 0) rfl).setBox 0 1 (.slice none 0 0) rfl) 0 rfl (z := .int .i64 1) Try.results12 rfl rfl rfl ⟨⟨_, rfl, _, _, 0, 0, rfl, OwnS.nil_ _ _ _, OwnS.nil_ _ _ _⟩, ((H.out.setBox 0 0 (.slice none 0 0) rfl).setBox 0 1 (.slice none 0 0) rfl).base⟩
    case true =>
      have HOK := Lib.hid (HB.out.1 rfl)
      have hna : na = n := by have := HOK.out.1; have := HSL.out; have := HLa.out; omega
      subst hna
      have t0 := H.out.cell 1 0 rfl rfl
      have t1 := H.out.cell 1 1 rfl rfl
      go_wp2_with fail
      refine (strides_mine (H.out.oldInts 2 rfl) HRS.out).mono ?_; rintro e4 w4 ⟨⟨v4, n4, rfl, hO⟩, hb4⟩
      obtain ⟨A4, c4, rfl, hc4, _, _⟩ := hO.form
      have hn : na = n4 := by have := hO.len; rw [Sh.strides_length] at this; have := HSL.out; omega
      subst hn
      replace H := Lib.hid (H.out.addOwn hb4 hO)
      clear hO hb4 hc4 t0 t1
      have hm := run_make_noughts Try.underlying22 Try.infoInt (n := na) (by omega)
      have HA := Lib.hid (H.out.drew.noughts2 3 na (by omega))
      go_upto_region 6 with fail
      go_cut [7, 8] (fun u v wx => ∃ g7 g8 : Nat, u = .slice (some ⟨g7, 0, none⟩) na na ∧ v = .slice (some ⟨g8, 0, none⟩) na na ∧ Sep w wx (.own 3 (.slice (some ⟨g8, 0, none⟩) na na) na (List.replicate na 0) :: .own 3 (.slice (some ⟨g7, 0, none⟩) na na) na (List.replicate na 0) :: [.own 3 (.slice A4 na c4) na (Sh.strides s), .box (w.heap.size + 1) 25 [.slice none 0 0, .slice none 0 0], .box w.heap.size 25 [.slice A na c, .slice B m e], .ints A na s, .ints B m d, .ints Aa na a]))
      case first =>
        go_region_held3 (fun w' => True) (go_keep) (fail)
        all_goals go_wp2_with fail
        all_goals go_meet
        all_goals first
          | exact ⟨_, _, rfl, rfl, HA.out⟩
          | exact ⟨_, _, rfl, rfl, HA.out.swap⟩
      case rest =>
        obtain ⟨g7, g8, rfl, rfl, hS⟩ := hcut
        clear HA hm H
        have H := Lib.hid hS
        clear hS
        have HTL := Lib.hid (show (turnS s a).length = na by rw [turnS_length]; exact HLa.out)
        have HTM := Lib.hid (show (turnS (Sh.strides s) a).length = na by rw [turnS_length]; exact HLa.out)
        go_wp2_with fail
        go_loopw [33] (fun kv wr => ∃ j : Nat, kv = .int .i64 j ∧ j ≤ na ∧ Sep w wr [.own 3 (.slice (some ⟨g8, 0, none⟩) na na) na (mix (turnS (Sh.strides s) a) (List.replicate na 0) j), .own 3 (.slice (some ⟨g7, 0, none⟩) na na) na (mix (turnS s a) (List.replicate na 0) j), .own 3 (.slice A4 na c4) na (Sh.strides s), .box (w.heap.size + 1) 25 [.slice none 0 0, .slice none 0 0], .box w.heap.size 25 [.slice A na c, .slice B m e], .ints A na s, .ints B m d, .ints Aa na a]) (fun kv _ => na - (intOf kv).toNat)
        case atStart => exact ⟨0, rfl, by omega, by rw [mix_zero, mix_zero]; exact H.out⟩
        case round =>
          clear H
          obtain ⟨j, rfl, hj, hS⟩ := hrel
          by_cases hlt : j < na
          · obtain ⟨aa, x, haA, _, hx, hcx, hfx⟩ := (hS.oldInts 7 rfl).at_ (k := j) hlt
            subst haA
            have hxi := tu_in HOK.out hx
            obtain ⟨xn, rfl⟩ := Int.eq_ofNat_of_zero_le hxi.1
            have hxn : xn < na := by have := HSL.out; omega
            obtain ⟨sa, y, hsA, _, hy, hcy, hfy⟩ := (hS.oldInts 5 rfl).at_ (k := xn) hxn
            subst hsA
            obtain ⟨ra, z, hrA, _, hz, hcz, hfz⟩ := ((hS.ownInts 2 rfl).2.2).at_ (k := xn) hxn
            subst hrA
            have c7 := (hS.own 1 rfl).cell (mix_rep (c := 0) HTL.out hlt)
            have f7 := (hS.own 1 rfl).frozen j
            have hS1 := hS.store 1 j hfy rfl
            rw [mix_step HTL.out (turnS_at hx (by rw [Int.toNat_natCast]; exact hy))] at hS1
            have c8 := (hS1.own 0 rfl).cell (mix_rep (c := 0) HTM.out hlt)
            have f8 := (hS1.own 0 rfl).frozen j
            have hS2 := hS1.store 0 j hfz rfl
            rw [mix_step HTM.out (turnS_at hx (by rw [Int.toNat_natCast]; exact hz))] at hS2
            have t0 := hS.cell 4 0 rfl rfl
            have t0hS1 : (wr.setCell ⟨g7, j, none⟩ (.int .i64 y)).drew.cell? ⟨w.heap.size, 0, none⟩ = some (.slice (some sa) na c) := hS1.cell 4 0 rfl rfl
            have yhS1 : (wr.setCell ⟨g7, j, none⟩ (.int .i64 y)).drew.cell? (sa.add xn) = some (.int .i64 y) := (hS1.oldInts 5 rfl).get hy
            have zhS1 : (wr.setCell ⟨g7, j, none⟩ (.int .i64 y)).drew.cell? (ra.add xn) = some (.int .i64 z) := (hS1.ownInts 2 rfl).2.2.get hz
            have t0hS2 : ((wr.setCell ⟨g7, j, none⟩ (.int .i64 y)).setCell ⟨g8, j, none⟩ (.int .i64 z)).drew.cell? ⟨w.heap.size, 0, none⟩ = some (.slice (some sa) na c) := hS2.cell 4 0 rfl rfl
            have yhS2 : ((wr.setCell ⟨g7, j, none⟩ (.int .i64 y)).setCell ⟨g8, j, none⟩ (.int .i64 z)).drew.cell? (sa.add xn) = some (.int .i64 y) := (hS2.oldInts 5 rfl).get hy
            have zhS2 : ((wr.setCell ⟨g7, j, none⟩ (.int .i64 y)).setCell ⟨g8, j, none⟩ (.int .i64 z)).drew.cell? (ra.add xn) = some (.int .i64 z) := (hS2.ownInts 2 rfl).2.2.get hz
            have c81 : (wr.setCell ⟨g7, j, none⟩ (.int .i64 y)).drew.cell? ⟨g8, j, none⟩ = some (.int .i64 0) := c8
            have f81 : (wr.setCell ⟨g7, j, none⟩ (.int .i64 y)).drew.frozen? ⟨g8, j, none⟩ = false := f8
            have HS2 := Lib.hid (show Sep w ((wr.setCell ⟨g7, j, none⟩ (.int .i64 y)).setCell ⟨g8, j, none⟩ (.int .i64 z)).drew _ from hS2.drew)
            clear hS hS1 hS2 hx hy hz hxi hfx hfy hfz c8 f8
            go_upto_region 10 with fail
            go_region_held3 (fun w' => w'.cell? ⟨w.heap.size, 0, none⟩ = some (.slice (some sa) na c) ∧ w'.cell? (sa.add xn) = some (.int .i64 y) ∧ w'.cell? (ra.add xn) = some (.int .i64 z)) (go_keep) (fail)
            all_goals (
              go_wp2
              go_roundw
              case rel => exact ⟨j + 1, by go_num, by omega, HS2.out⟩
              case measure => simp [intOf]; omega)
          · have hjn : na = j := by omega
            subst hjn
            rw [mix_end HTL.out, mix_end HTM.out] at hS
            have H := Lib.hid hS
            clear hS
            obtain ⟨hld, hcd⟩ := turn_lead HRT.out HOK.out
            have htr := (turn_right HOK.out HRS.out).1
            rw [HLa.out] at hld hcd
            have HLD := Lib.hid hld
            have HTR := Lib.hid htr
            have HQ := Lib.hid (show turnR s d a = (0, turnS s a, takeD d (turnS s a) (List.replicate na 0) (turnS (Sh.strides s) a)) from by rw [turnR_ok HRT.out HOK.out, hcd])
            clear hld hcd htr
            have hm := run_make_noughts Try.underlying22 Try.infoInt (n := na) (by omega)
            go_upto_region 12 with fail
            have t0 := H.out.cell 4 0 rfl rfl
            have t1 := H.out.cell 4 1 rfl rfl
            have H5 := Lib.hid (H.out.drew.noughts 3 na (by omega))
            have j0 : (wr.drew.alloc (.cells (noughts na) 3)).cell? ⟨w.heap.size, 0, none⟩ = some (.slice A na c) := H5.out.cell 5 0 rfl rfl
            have j1 : (wr.drew.alloc (.cells (noughts na) 3)).cell? ⟨w.heap.size, 1, none⟩ = some (.slice B m e) := H5.out.cell 5 1 rfl rfl
            go_region_held3 (fun w' => w'.cell? ⟨w.heap.size, 0, none⟩ = some (.slice A na c) ∧ w'.cell? ⟨w.heap.size, 1, none⟩ = some (.slice B m e)) (go_keep)
              (first | (go_at_call 31; refine (taken_any (ten_mk (H5.out.oldInts 6 rfl) hnc (H5.out.oldInts 7 rfl) hme) (H5.out.ownInts 2 rfl).2.2 (H5.out.ownInts 0 rfl).2.2 (H5.out.ownInts 1 rfl).2.2 HTR.out (near_zero na) (turn_steps HRS.out) HLD.out).mono ?_; rintro e7 w7 ⟨⟨u7, rfl, hu7⟩, hb7⟩; obtain ⟨S7, ns7, sc7, D7, nd7, dc7, rfl, hs7, hd7, hsc7, hdc7, hle7, h7⟩ := H5.out.addTen hb7 hu7; have H7 := Lib.hid h7; have m0 := H7.out.cell 7 0 rfl rfl; have m1 := H7.out.cell 7 1 rfl rfl; have r0 := H7.out.cell 6 0 rfl rfl; have r1 := H7.out.cell 6 1 rfl rfl; have fr0 := H7.out.frozenBox 6 0 rfl; have fr1 := H7.out.frozenBox 6 1 rfl; have H8 := Lib.hid ((H7.out.setBox 6 0 (.slice S7 ns7 sc7) rfl).setBox 6 1 (.slice D7 nd7 dc7) rfl); have k0 : ((w7.setCell ⟨w.heap.size + 1, 0, none⟩ (.slice S7 ns7 sc7)).setCell ⟨w.heap.size + 1, 1, none⟩ (.slice D7 nd7 dc7)).cell? ⟨w.heap.size, 0, none⟩ = some (.slice A na c) := H8.out.cell 7 0 rfl rfl; have k1 : ((w7.setCell ⟨w.heap.size + 1, 0, none⟩ (.slice S7 ns7 sc7)).setCell ⟨w.heap.size + 1, 1, none⟩ (.slice D7 nd7 dc7)).cell? ⟨w.heap.size, 1, none⟩ = some (.slice B m e) := H8.out.cell 7 1 rfl rfl; clear hu7 hb7 h7 hs7 hd7) | fail)
            go_wp2
            rw [HQ.out]
            exact sep_ret2 H8.out 6 rfl (z := .int .i64 0) Try.results12 rfl rfl rfl ⟨⟨_, rfl, _, _, ns7, nd7, rfl, H8.out.ownS 0 rfl, H8.out.ownS 1 rfl⟩, H8.out.base⟩
set_option maxRecDepth 100000 in
set_option maxHeartbeats 6400000 in
theorem axSpread_any {w : World} {v : Value} {Ao Aa : Option Addr} {no co na ca : Nat} {s d o a : List Int} (h : Ten w v s d) (hO : Ints w Ao no o) (hA : Ints w Aa na a) :
    Calls Try.prog 17 #[v, .slice Ao no co, .slice Aa na ca] w fun e w' => (∃ u, e = .returned (.tuple #[u, .int .i64 (spR s d o a).1]) ∧ OTen w' w.heap.size u (spR s d o a).2.1 (spR s d o a).2.2) ∧ Below w.heap.size w w' := by
  obtain ⟨A, n, c, B, m, e, rfl, hnc, hme, hI, hJ⟩ := h
  have h1 := ((((((Sep.nil w).old hA).old hO).old hJ).old hI).allocBox w.heap.size 25 [.slice A n c, .slice B m e] rfl).allocBox (w.heap.size + 1) 25 [.slice none 0 0, .slice none 0 0] (by simp)
  have hsl := hI.len
  have hnle := hI.le
  have hmle := hJ.le
  have HFD := Lib.hid hJ.fit
  have HDL := Lib.hid hJ.len
  have hlo := hO.len
  have hleo := hO.le
  have hla := hA.len
  have hlea := hA.le
  go_enter Try.func17, Try.ntmps17
  go_upto_region 1 with fail
  generalize (w.alloc (.cells #[.slice A n c, .slice B m e] 25)).alloc (.cells #[.slice none 0 0, .slice none 0 0] 25) = W at *
  have H := Lib.hid h1
  clear h1 hI hJ hO hA
  have HSL := Lib.hid hsl
  clear hsl
  have HLo := Lib.hid hlo
  clear hlo
  have HLa := Lib.hid hla
  clear hla
  have hT := ten_mk (H.out.oldInts 2 rfl) hnc (H.out.oldInts 3 rfl) hme
  have C1 := tRight_any hT
  have HT := Lib.hid hT
  clear hT
  have t0 := H.out.cell 1 0 rfl rfl
  have t1 := H.out.cell 1 1 rfl rfl
  go_wp2_with fail
  cases hr : tenRight s d with
  | false =>
    rw [hr] at C1
    refine C1.mono ?_; rintro e2 w2 ⟨rfl, hb2⟩
    replace H := Lib.hid (H.out.below hb2)
    have HX := Lib.hid (spR_shape (s := s) (d := d) (o := o) (a := a) (by rw [hr]; rfl))
    have r0 := H.out.cell 0 0 rfl rfl
    have r1 := H.out.cell 0 1 rfl rfl
    have fr0 := H.out.frozenBox 0 0 rfl
    have fr1 := H.out.frozenBox 0 1 rfl
    clear hb2 hr C1 t0 t1
    go_wp2
    rw [HX.out]
    exact sep_ret2 ((H.out.setBox 0 0 (.slice none 0 0) rfl).setBox 0 1 (.slice none 0 0) rfl) 0 rfl (z := .int .i64 13) Try.results17 rfl rfl rfl ⟨⟨_, rfl, _, _, 0, 0, rfl, OwnS.nil_ _ _ _, OwnS.nil_ _ _ _⟩, ((H.out.setBox 0 0 (.slice none 0 0) rfl).setBox 0 1 (.slice none 0 0) rfl).base⟩
  | true =>
    rw [hr] at C1
    refine C1.mono ?_; rintro e2 w2 ⟨rfl, hb2⟩
    replace H := Lib.hid (H.out.below hb2)
    have HRT := Lib.hid hr
    have HRS := Lib.hid (right_of hr)
    clear hb2 hr C1 t0 t1 HT
    have hn4 : n ≤ 4 := by have := (right_len HRT.out).1; have := HSL.out; omega
    have C2 := right_any (c := co) (H.out.oldInts 4 rfl)
    go_wp2_with fail
    cases ho : Sh.right o with
    | false =>
      rw [ho] at C2
      refine C2.mono ?_; rintro e3 w3 ⟨rfl, rfl⟩
      have HX := Lib.hid (spR_shape (s := s) (d := d) (o := o) (a := a) (by rw [ho]; simp))
      have r0 := H.out.cell 0 0 rfl rfl
      have r1 := H.out.cell 0 1 rfl rfl
      have fr0 := H.out.frozenBox 0 0 rfl
      have fr1 := H.out.frozenBox 0 1 rfl
      clear ho C2
      go_wp2
      rw [HX.out]
      exact sep_ret2 ((H.out.setBox 0 0 (.slice none 0 0) rfl).setBox 0 1 (.slice none 0 0) rfl) 0 rfl (z := .int .i64 13) Try.results17 rfl rfl rfl ⟨⟨_, rfl, _, _, 0, 0, rfl, OwnS.nil_ _ _ _, OwnS.nil_ _ _ _⟩, ((H.out.setBox 0 0 (.slice none 0 0) rfl).setBox 0 1 (.slice none 0 0) rfl).base⟩
    | true =>
      rw [ho] at C2
      refine C2.mono ?_; rintro e3 w3 ⟨rfl, rfl⟩
      have HRO := Lib.hid ho
      have HBO := Lib.hid (show (tenRight s d && Sh.right o) = true by rw [HRT.out, HRO.out]; rfl)
      have hno4 : no ≤ 4 := by have := (Sh.right_iff.1 ho).1; have := HLo.out; omega
      clear ho C2
      have t0 := H.out.cell 1 0 rfl rfl
      have t1 := H.out.cell 1 1 rfl rfl
      have C3 := rising_any (c := ca) no (H.out.oldInts 5 rfl) hno4
      go_wp2_with fail
      refine C3.mono ?_; rintro e3 w3 ⟨⟨b3, rfl, hb⟩, rfl⟩
      have HB := Lib.hid hb
      clear hb C3
      cases b3
      case false =>
        have HX := Lib.hid (spR_arg HBO.out (fun hc => by have := HB.out.2 (by have := (sp_iff.1 hc).1; rwa [HLo.out] at this); cases this))
        have r0 := H.out.cell 0 0 rfl rfl
        have r1 := H.out.cell 0 1 rfl rfl
        have fr0 := H.out.frozenBox 0 0 rfl
        have fr1 := H.out.frozenBox 0 1 rfl
        clear t0 t1
        go_wp2
        rw [HX.out]
        exact sep_ret2 ((H.out.setBox 0 0 (.slice none 0 0) rfl).setBox 0 1 (.slice none 0 0) rfl) 0 rfl (z := .int .i64 1) Try.results17 rfl rfl rfl ⟨⟨_, rfl, _, _, 0, 0, rfl, OwnS.nil_ _ _ _, OwnS.nil_ _ _ _⟩, ((H.out.setBox 0 0 (.slice none 0 0) rfl).setBox 0 1 (.slice none 0 0) rfl).base⟩
      case true =>
        have HRI := Lib.hid (show Rise a o.length by rw [HLo.out]; exact HB.out.1 rfl)
        clear HB
        have C4 := asLong_any (cs := c) (co := co) (ca := ca) (H.out.oldInts 2 rfl) (H.out.oldInts 4 rfl) (H.out.oldInts 5 rfl) HRI.out
        go_wp2_with fail
        refine C4.mono ?_; rintro e3 w3 ⟨⟨b4, rfl, hb⟩, q, rfl⟩
        have HB := Lib.hid hb
        replace H := Lib.hid (H.out.drewN q)
        clear hb C4 t0 t1
        generalize w2.drewN q = w3 at *
        cases b4
        case false =>
          have HX := Lib.hid (spR_arg HBO.out (fun hc => by have := HB.out.2 (sp_iff.1 hc).2; cases this))
          have r0 := H.out.cell 0 0 rfl rfl
          have r1 := H.out.cell 0 1 rfl rfl
          have fr0 := H.out.frozenBox 0 0 rfl
          have fr1 := H.out.frozenBox 0 1 rfl
          go_wp2
          rw [HX.out]
          exact sep_ret2 ((H.out.setBox 0 0 (.slice none 0 0) rfl).setBox 0 1 (.slice none 0 0) rfl) 0 rfl (z := .int .i64 1) Try.results17 rfl rfl rfl ⟨⟨_, rfl, _, _, 0, 0, rfl, OwnS.nil_ _ _ _, OwnS.nil_ _ _ _⟩, ((H.out.setBox 0 0 (.slice none 0 0) rfl).setBox 0 1 (.slice none 0 0) rfl).base⟩
        case true =>
          have HOK := Lib.hid (sp_iff.2 ⟨HRI.out, HB.out.1 rfl⟩)
          have hna : na = n := by have := HOK.out.1; have := HSL.out; have := HLa.out; omega
          subst hna
          have t0 := H.out.cell 1 0 rfl rfl
          have t1 := H.out.cell 1 1 rfl rfl
          have hm := run_make_noughts Try.underlying22 Try.infoInt (n := no) (by omega)
          have h3 := H.out.noughts 3 no (by omega)
          go_upto_region 6 with fail
          generalize w3.alloc (.cells (noughts no) 3) = w4 at *
          generalize w3.heap.size = gi at *
          replace H := Lib.hid h3
          clear h3 hm t0 t1
          have t0 := H.out.cell 2 0 rfl rfl
          have t1 := H.out.cell 2 1 rfl rfl
          go_wp2_with fail
          refine (strides_mine (H.out.oldInts 3 rfl) HRS.out).mono ?_; rintro e4 w5 ⟨⟨v4, n4, rfl, hO⟩, hb4⟩
          obtain ⟨A4, c4, rfl, hc4, _, _⟩ := hO.form
          have hn : na = n4 := by have := hO.len; rw [Sh.strides_length] at this; have := HSL.out; omega
          subst hn
          replace H := Lib.hid (H.out.addOwn hb4 hO)
          clear hO hb4 hc4 t0 t1
          go_wp2_with fail
          go_loopw [41] (fun kv wr => ∃ k : Nat, kv = .int .i64 k ∧ k ≤ na ∧ Sep w wr [.own 3 (.slice A4 na c4) na (Sh.strides s), .own 3 (.slice (some ⟨gi, 0, none⟩) no no) no (setAll (List.replicate no 0) a (Sh.strides s) k), .box (w.heap.size + 1) 25 [.slice none 0 0, .slice none 0 0], .box w.heap.size 25 [.slice A na c, .slice B m e], .ints A na s, .ints B m d, .ints Ao no o, .ints Aa na a]) (fun kv _ => na - (intOf kv).toNat)
          case atStart => exact ⟨0, rfl, by omega, H.out⟩
          case round =>
            clear H
            obtain ⟨k, rfl, hk, hS⟩ := hrel
            by_cases hlk : k < na
            · obtain ⟨aa, x, haA, _, hx, hcx, hfx⟩ := (hS.oldInts 7 rfl).at_ (k := k) hlk
              subst haA
              have hxi := sp_in HOK.out hx
              obtain ⟨xn, rfl⟩ := Int.eq_ofNat_of_zero_le hxi.1
              have hxn : xn < no := by have := HLo.out; omega
              obtain ⟨ra, y, hrA, _, hy, hcy, hfy⟩ := ((hS.ownInts 0 rfl).2.2).at_ (k := k) hlk
              subst hrA
              obtain ⟨z, hz⟩ := getElem_of (l := setAll (List.replicate no 0) a (Sh.strides s) k) (k := xn) (by rw [setAll_length, List.length_replicate]; exact hxn)
              have hcz := (hS.own 1 rfl).cell hz
              have hfz := (hS.own 1 rfl).frozen xn
              have hS2 := hS.store 1 xn hfy rfl
              have hss := setAll_step (f := List.replicate no 0) hx hy
              rw [Int.toNat_natCast] at hss
              rw [hss] at hS2
              have HS2 := Lib.hid hS2
              clear hS hS2 hss hz hx hy hxi hfx hfy
              go_wp2
              go_roundw
              case rel => exact ⟨k + 1, by go_num, by omega, HS2.out⟩
              case measure => simp [intOf]; omega
            · have hkn : na = k := by omega
              subst hkn
              rw [show setAll (List.replicate no 0) a (Sh.strides s) na = spSt s o a by rw [spSt, HLo.out, HLa.out]] at hS
              have H := Lib.hid hS
              clear hS
              obtain ⟨hld, hcd⟩ := sp_lead HRT.out HOK.out
              rw [HLo.out] at hld hcd
              have HLD := Lib.hid hld
              have HQ := Lib.hid (show spR s d o a = (0, o, takeD d o (List.replicate no 0) (spSt s o a)) from by rw [spR_ok HBO.out HOK.out, hcd])
              have HSP := Lib.hid (sp_steps HRS.out HOK.out)
              clear hld hcd
              have hm := run_make_noughts Try.underlying22 Try.infoInt (n := no) (by omega)
              go_upto_region 11 with fail
              have t0 := H.out.cell 3 0 rfl rfl
              have t1 := H.out.cell 3 1 rfl rfl
              have H5 := Lib.hid (H.out.drew.noughts 3 no (by omega))
              have j0 : (wr.drew.alloc (.cells (noughts no) 3)).cell? ⟨w.heap.size, 0, none⟩ = some (.slice A na c) := H5.out.cell 4 0 rfl rfl
              have j1 : (wr.drew.alloc (.cells (noughts no) 3)).cell? ⟨w.heap.size, 1, none⟩ = some (.slice B m e) := H5.out.cell 4 1 rfl rfl
              go_region_held3 (fun w' => w'.cell? ⟨w.heap.size, 0, none⟩ = some (.slice A na c) ∧ w'.cell? ⟨w.heap.size, 1, none⟩ = some (.slice B m e)) (go_keep)
                (first | (go_at_call 31; refine (taken_any (ten_mk (H5.out.oldInts 5 rfl) hnc (H5.out.oldInts 6 rfl) hme) (H5.out.oldInts 7 rfl) (H5.out.ownInts 0 rfl).2.2 (H5.out.ownInts 2 rfl).2.2 HRO.out (near_zero no) HSP.out HLD.out).mono ?_; rintro e7 w7 ⟨⟨u7, rfl, hu7⟩, hb7⟩; obtain ⟨S7, ns7, sc7, D7, nd7, dc7, rfl, hs7, hd7, hsc7, hdc7, hle7, h7⟩ := H5.out.addTen hb7 hu7; have H7 := Lib.hid h7; have m0 := H7.out.cell 6 0 rfl rfl; have m1 := H7.out.cell 6 1 rfl rfl; have r0 := H7.out.cell 5 0 rfl rfl; have r1 := H7.out.cell 5 1 rfl rfl; have fr0 := H7.out.frozenBox 5 0 rfl; have fr1 := H7.out.frozenBox 5 1 rfl; have H8 := Lib.hid ((H7.out.setBox 5 0 (.slice S7 ns7 sc7) rfl).setBox 5 1 (.slice D7 nd7 dc7) rfl); have k0 : ((w7.setCell ⟨w.heap.size + 1, 0, none⟩ (.slice S7 ns7 sc7)).setCell ⟨w.heap.size + 1, 1, none⟩ (.slice D7 nd7 dc7)).cell? ⟨w.heap.size, 0, none⟩ = some (.slice A na c) := H8.out.cell 6 0 rfl rfl; have k1 : ((w7.setCell ⟨w.heap.size + 1, 0, none⟩ (.slice S7 ns7 sc7)).setCell ⟨w.heap.size + 1, 1, none⟩ (.slice D7 nd7 dc7)).cell? ⟨w.heap.size, 1, none⟩ = some (.slice B m e) := H8.out.cell 6 1 rfl rfl; clear hu7 hb7 h7 hs7 hd7) | fail)
              go_wp2
              rw [HQ.out]
              exact sep_ret2 H8.out 5 rfl (z := .int .i64 0) Try.results17 rfl rfl rfl ⟨⟨_, rfl, _, _, ns7, nd7, rfl, H8.out.ownS 0 rfl, H8.out.ownS 1 rfl⟩, H8.out.base⟩
set_option maxRecDepth 100000 in
set_option maxHeartbeats 6400000 in
theorem axPad_any {w : World} {v : Value} {Al Ah : Option Addr} {nl cl nh ch : Nat} {s d lo hi : List Int} (x0 : Int) (h : Ten w v s d) (hL : Ints w Al nl lo) (hH : Ints w Ah nh hi) (hx0 : Fits x0) :
    Calls Try.prog 14 #[v, .slice Al nl cl, .slice Ah nh ch, .int .i64 x0] w fun e w' => (∃ u, e = .returned (.tuple #[u, .int .i64 (padR s d lo hi x0).1]) ∧ OTen w' w.heap.size u (padR s d lo hi x0).2.1 (padR s d lo hi x0).2.2) ∧ Below w.heap.size w w' := by
  obtain ⟨A, n, c, B, m, e, rfl, hnc, hme, hI, hJ⟩ := h
  have h1 := ((((((Sep.nil w).old hH).old hL).old hJ).old hI).allocBox w.heap.size 25 [.slice A n c, .slice B m e] rfl).allocBox (w.heap.size + 1) 25 [.slice none 0 0, .slice none 0 0] (by simp)
  have hsl := hI.len
  have hnle := hI.le
  have hmle := hJ.le
  have HFD := Lib.hid hJ.fit
  have HDL := Lib.hid hJ.len
  have hllo := hL.len
  have hlelo := hL.le
  have hlhi := hH.len
  have hlehi := hH.le
  go_enter Try.func14, Try.ntmps14
  go_upto_region 1 with fail
  generalize (w.alloc (.cells #[.slice A n c, .slice B m e] 25)).alloc (.cells #[.slice none 0 0, .slice none 0 0] 25) = W at *
  have H := Lib.hid h1
  clear h1 hI hJ hL hH
  have HSL := Lib.hid hsl
  clear hsl
  have HLlo := Lib.hid hllo
  clear hllo
  have HLhi := Lib.hid hlhi
  clear hlhi
  have hT := ten_mk (H.out.oldInts 2 rfl) hnc (H.out.oldInts 3 rfl) hme
  have C1 := tRight_any hT
  have HT := Lib.hid hT
  clear hT
  have t0 := H.out.cell 1 0 rfl rfl
  have t1 := H.out.cell 1 1 rfl rfl
  go_wp2_with fail
  cases hr : tenRight s d with
  | false =>
    rw [hr] at C1
    refine C1.mono ?_; rintro e2 w2 ⟨rfl, hb2⟩
    replace H := Lib.hid (H.out.below hb2)
    have HX := Lib.hid (padR_shape (lo := lo) (hi := hi) (n := x0) hr)
    have r0 := H.out.cell 0 0 rfl rfl
    have r1 := H.out.cell 0 1 rfl rfl
    have fr0 := H.out.frozenBox 0 0 rfl
    have fr1 := H.out.frozenBox 0 1 rfl
    clear hb2 hr C1 t0 t1
    go_wp2
    rw [HX.out]
    exact sep_ret2 ((H.out.setBox 0 0 (.slice none 0 0) rfl).setBox 0 1 (.slice none 0 0) rfl) 0 rfl (z := .int .i64 13) Try.results14 rfl rfl rfl ⟨⟨_, rfl, _, _, 0, 0, rfl, OwnS.nil_ _ _ _, OwnS.nil_ _ _ _⟩, ((H.out.setBox 0 0 (.slice none 0 0) rfl).setBox 0 1 (.slice none 0 0) rfl).base⟩
  | true =>
    rw [hr] at C1
    refine C1.mono ?_; rintro e2 w2 ⟨rfl, hb2⟩
    replace H := Lib.hid (H.out.below hb2)
    have HRT := Lib.hid hr
    have HRS := Lib.hid (right_of hr)
    clear hb2 hr C1 t0 t1 HT
    have hn4 : n ≤ 4 := by have := (right_len HRT.out).1; have := HSL.out; omega
    have t0 := H.out.cell 1 0 rfl rfl
    have t1 := H.out.cell 1 1 rfl rfl
    have C2 := lengths_any (c := cl) n (H.out.oldInts 4 rfl) hn4
    have C3 := lengths_any (c := ch) n (H.out.oldInts 5 rfl) hn4
    go_wp2_with fail
    refine C2.mono ?_; rintro e3 w3 ⟨⟨b3, rfl, hb⟩, rfl⟩
    have HB := Lib.hid hb
    clear hb C2
    cases b3
    case false =>
      have HX := Lib.hid (padR_arg (lo := lo) (hi := hi) (n := x0) HRT.out (fun hc => by have := HB.out.2 (by have := (pad_iff.1 hc).1; rwa [HSL.out] at this); cases this))
      have r0 := H.out.cell 0 0 rfl rfl
      have r1 := H.out.cell 0 1 rfl rfl
      have fr0 := H.out.frozenBox 0 0 rfl
      have fr1 := H.out.frozenBox 0 1 rfl
      clear C3 t0 t1
      go_wp2
      rw [HX.out]
      exact sep_ret2 ((H.out.setBox 0 0 (.slice none 0 0) rfl).setBox 0 1 (.slice none 0 0) rfl) 0 rfl (z := .int .i64 1) Try.results14 rfl rfl rfl ⟨⟨_, rfl, _, _, 0, 0, rfl, OwnS.nil_ _ _ _, OwnS.nil_ _ _ _⟩, ((H.out.setBox 0 0 (.slice none 0 0) rfl).setBox 0 1 (.slice none 0 0) rfl).base⟩
    case true =>
      have HLO := Lib.hid (HB.out.1 rfl)
      clear HB
      go_wp2_with fail
      refine C3.mono ?_; rintro e3 w3 ⟨⟨b4, rfl, hb⟩, rfl⟩
      have HB := Lib.hid hb
      clear hb C3 t0 t1
      cases b4
      case false =>
        have HX := Lib.hid (padR_arg (lo := lo) (hi := hi) (n := x0) HRT.out (fun hc => by have := HB.out.2 (by have := (pad_iff.1 hc).2; rwa [HSL.out] at this); cases this))
        have r0 := H.out.cell 0 0 rfl rfl
        have r1 := H.out.cell 0 1 rfl rfl
        have fr0 := H.out.frozenBox 0 0 rfl
        have fr1 := H.out.frozenBox 0 1 rfl
        go_wp2
        rw [HX.out]
        exact sep_ret2 ((H.out.setBox 0 0 (.slice none 0 0) rfl).setBox 0 1 (.slice none 0 0) rfl) 0 rfl (z := .int .i64 1) Try.results14 rfl rfl rfl ⟨⟨_, rfl, _, _, 0, 0, rfl, OwnS.nil_ _ _ _, OwnS.nil_ _ _ _⟩, ((H.out.setBox 0 0 (.slice none 0 0) rfl).setBox 0 1 (.slice none 0 0) rfl).base⟩
      case true =>
        have HOK := Lib.hid (show PadOk s lo hi from pad_iff.2 ⟨by rw [HSL.out]; exact HLO.out, by rw [HSL.out]; exact HB.out.1 rfl⟩)
        clear HLO HB
        have h1 : nl = n := by have := HOK.out.1; have := HSL.out; have := HLlo.out; omega
        have h2 : nh = n := by have := HOK.out.2.1; have := HSL.out; have := HLhi.out; omega
        subst h1
        subst h2
        have t0 := H.out.cell 1 0 rfl rfl
        have t1 := H.out.cell 1 1 rfl rfl
        have hm := run_make_noughts Try.underlying22 Try.infoInt (n := nh) (by omega)
        have h3 := H.out.noughts 3 nh (by omega)
        go_upto_region 6 with fail
        generalize w2.alloc (.cells (noughts nh) 3) = w4 at *
        generalize w2.heap.size = gi at *
        replace H := Lib.hid h3
        clear h3 hm t0 t1
        have t0 := H.out.cell 2 0 rfl rfl
        have t1 := H.out.cell 2 1 rfl rfl
        have HPL := Lib.hid (show (padS s lo hi).length = nh by rw [padS_length HOK.out.1 HOK.out.2.1]; exact HSL.out)
        go_wp2_with fail
        clear t0 t1
        go_loopw [41] (fun kv wr => ∃ j : Nat, kv = .int .i64 j ∧ j ≤ nh ∧ Sep w wr [.own 3 (.slice (some ⟨gi, 0, none⟩) nh nh) nh (mix (padS s lo hi) (List.replicate nh 0) j), .box (w.heap.size + 1) 25 [.slice none 0 0, .slice none 0 0], .box w.heap.size 25 [.slice A nh c, .slice B m e], .ints A nh s, .ints B m d, .ints Al nh lo, .ints Ah nh hi]) (fun kv _ => nh - (intOf kv).toNat)
        case atStart => exact ⟨0, rfl, by omega, by rw [mix_zero]; exact H.out⟩
        case round =>
          clear H
          obtain ⟨j, rfl, hj, hS⟩ := hrel
          by_cases hlt : j < nh
          · obtain ⟨la, x, hlA, _, hx, hcx, hfx⟩ := (hS.oldInts 5 rfl).at_ (k := j) hlt
            obtain ⟨ha, y, hhA, _, hy, hcy, hfy⟩ := (hS.oldInts 6 rfl).at_ (k := j) hlt
            obtain ⟨sa, z, hsA, _, hz, hcz, hfz⟩ := (hS.oldInts 3 rfl).at_ (k := j) hlt
            subst hlA
            subst hhA
            subst hsA
            have hzb := (Sh.right_iff.1 HRS.out).2.1 z (List.mem_of_getElem? hz)
            have hxy := HOK.out.2.2 j x y hx hy
            have hw1 : IntKind.i64.wrap (x + z) = x + z := IntWalk.i64_in _ ⟨by omega, by omega⟩
            have hw2 : IntKind.i64.wrap (x + z + y) = x + z + y := IntWalk.i64_in _ ⟨by omega, by omega⟩
            have hcp := (hS.own 0 rfl).cell (mix_rep (c := 0) HPL.out hlt)
            have hfp := (hS.own 0 rfl).frozen j
            have hS2 := hS.store 0 j (x := x + z + y) ⟨by omega, by omega⟩ rfl
            rw [mix_step HPL.out (padS_at hx hz hy)] at hS2
            have HS2 := Lib.hid hS2
            clear hS hS2 hx hy hz hzb hxy hfx hfy hfz
            go_upto_region 9 with fail
            go_still_tail 14, (by kernel_rfl)
            change wpList _ _ _ _ _ wr.drew
            have hcp1 : wr.drew.cell? ⟨gi, j, none⟩ = some (.int .i64 0) := hcp
            have hfp1 : wr.drew.frozen? ⟨gi, j, none⟩ = false := hfp
            go_wp2
            go_roundw
            case rel => exact ⟨j + 1, by go_num, by omega, HS2.out.drew⟩
            case measure => simp [intOf]; omega
          · have hjn : nh = j := by omega
            subst hjn
            rw [mix_end HPL.out] at hS
            have H := Lib.hid hS
            clear hS
            cases ho : Sh.right (padS s lo hi) with
            | false =>
              have C4 := tFill_wrong x0 (c := nh) ((H.out.ownInts 0 rfl).2.2) hx0 ho
              have HX := Lib.hid (padR_shape2 (d := d) (n := x0) HRT.out HOK.out ho)
              go_wp2_with fail
              refine C4.mono ?_; rintro e5 w5 ⟨⟨u5, rfl, hu5⟩, hb5⟩
              obtain ⟨S5, n5, sc5, D5, N5, dc5, rfl, hs5, hd5, _, _, _, h5⟩ := H.out.addTen hb5 hu5
              have h6 := h5.allocBox w5.heap.size 25 [.slice S5 n5 sc5, .slice D5 N5 dc5] rfl
              clear hu5 hb5 h5 hs5 hd5 C4 ho
              go_upto_region 12 with fail
              generalize w5.alloc (.cells #[.slice S5 n5 sc5, .slice D5 N5 dc5] 25) = w6 at *
              replace H := Lib.hid h6
              clear h6
              have r0 := H.out.cell 4 0 rfl rfl
              have r1 := H.out.cell 4 1 rfl rfl
              have fr0 := H.out.frozenBox 4 0 rfl
              have fr1 := H.out.frozenBox 4 1 rfl
              go_wp2
              rw [HX.out]
              exact sep_ret2 ((H.out.setBox 4 0 (.slice none 0 0) rfl).setBox 4 1 (.slice none 0 0) rfl) 4 rfl (z := .int .i64 13) Try.results14 rfl rfl rfl ⟨⟨_, rfl, _, _, 0, 0, rfl, OwnS.nil_ _ _ _, OwnS.nil_ _ _ _⟩, ((H.out.setBox 4 0 (.slice none 0 0) rfl).setBox 4 1 (.slice none 0 0) rfl).base⟩
            | true =>
              have HRP := Lib.hid ho
              have C4 := tFill_right x0 (c := nh) ((H.out.ownInts 0 rfl).2.2) hx0 ho
              obtain ⟨N, hN⟩ := Int.eq_ofNat_of_zero_le (Sh.size_bd (padS s lo hi)).1
              have hN4 : N ≤ 4096 := by have := (Sh.size_bd (padS s lo hi)).2; omega
              rw [hN, Int.toNat_natCast] at C4
              obtain ⟨hld, hcd, hnf⟩ := pad_lead HRT.out HOK.out ho x0
              rw [hN, Int.toNat_natCast] at hld hcd
              have HLD := Lib.hid hld
              have HNF := Lib.hid hnf
              have HQ := Lib.hid (show padR s d lo hi x0 = (0, padS s lo hi, layD (List.replicate N x0) d s lo (padS s lo hi) m) from by rw [padR_ok HRT.out HOK.out ho, hcd, HDL.out])
              clear hld hcd hnf ho hN
              go_wp2_with fail
              refine C4.mono ?_; rintro e5 w5 ⟨⟨u5, rfl, hu5⟩, hb5⟩
              obtain ⟨S1, ns, sc, D1, N1, dc, rfl, hs5, hd5, hsc, hdc, hNle, h5⟩ := H.out.addTen hb5 hu5
              rw [List.length_replicate] at hd5
              subst hd5
              have hns : nh = ns := by have := HPL.out; omega
              subst hns
              have h6 := h5.allocBox w5.heap.size 25 [.slice S1 nh sc, .slice D1 N dc] rfl
              clear hu5 hb5 h5 hs5 C4
              go_upto_region 12 with fail
              generalize w5.alloc (.cells #[.slice S1 nh sc, .slice D1 N dc] 25) = w6 at *
              generalize w5.heap.size = gt at *
              replace H := Lib.hid h6
              clear h6
              have o0 := H.out.cell 0 0 rfl rfl
              have o1 := H.out.cell 0 1 rfl rfl
              have t0 := H.out.cell 5 0 rfl rfl
              have t1 := H.out.cell 5 1 rfl rfl
              go_wp2_with fail
              refine (lay_any H.out 2 1 8 6 7 rfl rfl rfl rfl rfl (by decide) (fun w' h => h.1) HRS.out HRP.out HNF.out (by have := len_right HRT.out; have := HDL.out; omega) rfl HLD.out).mono ?_; rintro e8 w8 ⟨rfl, h8⟩
              replace H := Lib.hid (show Sep w w8 [.box gt 25 [.slice S1 nh sc, .slice D1 N dc], .own 3 (.slice S1 nh sc) nh (padS s lo hi), .own 2 (.slice D1 N dc) N (layD (List.replicate N x0) d s lo (padS s lo hi) m), .own 3 (.slice (some ⟨gi, 0, none⟩) nh nh) nh (padS s lo hi), .box (w.heap.size + 1) 25 [.slice none 0 0, .slice none 0 0], .box w.heap.size 25 [.slice A nh c, .slice B m e], .ints A nh s, .ints B m d, .ints Al nh lo, .ints Ah nh hi] from h8)
              clear h8 o0 o1 t0 t1
              have o0 := H.out.cell 0 0 rfl rfl
              have o1 := H.out.cell 0 1 rfl rfl
              have r0 := H.out.cell 4 0 rfl rfl
              have r1 := H.out.cell 4 1 rfl rfl
              have fr0 := H.out.frozenBox 4 0 rfl
              have fr1 := H.out.frozenBox 4 1 rfl
              go_wp2
              rw [HQ.out]
              exact sep_ret2 ((H.out.setBox 4 0 (.slice S1 nh sc) rfl).setBox 4 1 (.slice D1 N dc) rfl) 4 rfl (z := .int .i64 0) Try.results14 rfl rfl rfl ⟨⟨_, rfl, _, _, nh, N, rfl, ((H.out.setBox 4 0 (.slice S1 nh sc) rfl).setBox 4 1 (.slice D1 N dc) rfl).ownS 1 rfl, ((H.out.setBox 4 0 (.slice S1 nh sc) rfl).setBox 4 1 (.slice D1 N dc) rfl).ownS 2 rfl⟩, ((H.out.setBox 4 0 (.slice S1 nh sc) rfl).setBox 4 1 (.slice D1 N dc) rfl).base⟩
end Go.Proofs.Ythgpiimagbcmbaa
