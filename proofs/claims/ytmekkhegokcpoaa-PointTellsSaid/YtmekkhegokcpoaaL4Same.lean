/- The law function same of stage 4. -/
import Derived.Test.YtmekkhegokcpoaaPointC
import Derived.Test.YtmekkhegokcpoaaRef4B
import Derived.Test.YtmekkhegokcpoaaBox
namespace Go.Proofs.Ytmekkhegokcpoaa
open Go.RowKit

set_option maxRecDepth 100000 in
set_option maxHeartbeats 6400000 in
theorem l4same_any {w : World} {v0 v1 v2 : Value} {s0 d0 s1 d1 s2 d2 : List Int} (op : Int) (h0 : Ten w v0 s0 d0) (h1 : Ten w v1 s1 d1) (h2 : Ten w v2 s2 d2) :
    Calls Try.prog 10 #[.int .i64 op, v0, v1, v2] w fun e w' => e = .returned (.bool true) ∧ Below w.heap.size w w' := by
  obtain ⟨A0, n0, c0, B0, m0, e0, rfl, hnc0, hme0, hI0, hJ0⟩ := h0
  obtain ⟨A1, n1, c1, B1, m1, e1, rfl, hnc1, hme1, hI1, hJ1⟩ := h1
  obtain ⟨A2, n2, c2, B2, m2, e2, rfl, hnc2, hme2, hI2, hJ2⟩ := h2
  have q1 := Below.refl w.heap.size w
  have q2 := q1.alloc (Nat.le_refl _) (.cells #[.slice A0 n0 c0, .slice B0 m0 e0] 27)
  have q3 := q2.alloc (by simp) (.cells #[.slice A1 n1 c1, .slice B1 m1 e1] 27)
  have x1 := (Bx.nil w).push (ten_mk hI0 hnc0 hJ0 hme0).tx
  have x2 := x1.push (ten_mk (hI1.below q2) hnc1 (hJ1.below q2) hme1).tx
  rw [size_alloc] at x2
  have x3 := x2.push (ten_mk (hI2.below q3) hnc2 (hJ2.below q3) hme2).tx
  rw [size_alloc, size_alloc] at x3
  have HBX := Lib.hid x3
  clear q1 q2 q3 x1 x2 x3 hI0 hJ0 hI1 hJ1 hI2 hJ2
  go_enter Try.func10, Try.ntmps10
  go_upto_region 1 with fail
  generalize ((w.alloc (.cells #[.slice A0 n0 c0, .slice B0 m0 e0] 27)).alloc (.cells #[.slice A1 n1 c1, .slice B1 m1 e1] 27)).alloc (.cells #[.slice A2 n2 c2, .slice B2 m2 e2] 27) = v at *
  obtain ⟨r1, hr1⟩ : ∃ r, oneR op s0 d0 = r := ⟨_, rfl⟩
  have Hr1 := Lib.hid hr1
  clear hr1
  have kr1 : (r1.1 == r1.1) = true := by simp
  obtain ⟨r2, hr2⟩ : ∃ r, twoR op s0 d0 s1 d1 = r := ⟨_, rfl⟩
  have Hr2 := Lib.hid hr2
  clear hr2
  have kr2 : (r2.1 == r2.1) = true := by simp
  obtain ⟨r3, hr3⟩ : ∃ r, pickR s2 d2 s0 d0 s1 d1 = r := ⟨_, rfl⟩
  have Hr3 := Lib.hid hr3
  clear hr3
  have kr3 : (r3.1 == r3.1) = true := by simp
  obtain ⟨Sa, sna, sca, Da, dna, dca, pa0, pa1, ta⟩ := HBX.out.get (g := w.heap.size) (s := s0) (d := d0) (List.mem_cons_of_mem _ (List.mem_cons_of_mem _ (List.mem_cons_self)))
  have C0 := pOne_any op ta
  rw [Hr1.out] at C0
  have Ta := Lib.hid ta
  clear ta
  go_wp2_with fail
  refine C0.mono ?_; rintro e0 w0 ⟨⟨u, rfl, hu⟩, hb⟩
  obtain ⟨S, sn, sc, D, dn, dc, rfl, h1, h2, h3, h4, h5, h6⟩ := hu.tx HBX.out.lt
  replace HBX := Lib.hid ((HBX.out.below hb).push ⟨S, sn, sc, D, dn, dc, rfl, h1, h2, h3, h4, h5, h6⟩)
  clear C0 hb hu h1 h2 h3 h4 h5 h6 Ta
  clear pa0 pa1
  go_upto_region 2 with fail
  generalize w0.alloc (.cells #[.slice S sn sc, .slice D dn dc] 27) = v0 at *
  generalize w0.heap.size = gt at *
  skip
  obtain ⟨Sa, sna, sca, Da, dna, dca, pa0, pa1, ta⟩ := HBX.out.get (g := w.heap.size) (s := s0) (d := d0) (List.mem_cons_of_mem _ (List.mem_cons_of_mem _ (List.mem_cons_of_mem _ (List.mem_cons_self))))
  have C1 := ref4One_any op ta
  rw [Hr1.out] at C1
  have Ta := Lib.hid ta
  clear ta
  go_wp2_with fail
  refine C1.mono ?_; rintro e1 w1 ⟨⟨u, rfl, hu⟩, hb⟩
  obtain ⟨S, sn, sc, D, dn, dc, rfl, h1, h2, h3, h4, h5, h6⟩ := hu.tx HBX.out.lt
  replace HBX := Lib.hid ((HBX.out.below hb).push ⟨S, sn, sc, D, dn, dc, rfl, h1, h2, h3, h4, h5, h6⟩)
  clear C1 hb hu h1 h2 h3 h4 h5 h6 Ta
  clear pa0 pa1
  go_upto_region 3 with fail
  generalize w1.alloc (.cells #[.slice S sn sc, .slice D dn dc] 27) = v1 at *
  generalize w1.heap.size = gu at *
  skip
  obtain ⟨Sa, sna, sca, Da, dna, dca, pa0, pa1, ta⟩ := HBX.out.get (g := w.heap.size) (s := s0) (d := d0) (List.mem_cons_of_mem _ (List.mem_cons_of_mem _ (List.mem_cons_of_mem _ (List.mem_cons_of_mem _ (List.mem_cons_self)))))
  obtain ⟨Sb, snb, scb, Db, dnb, dcb, pb0, pb1, tb⟩ := HBX.out.get (g := (w.heap.size + 1)) (s := s1) (d := d1) (List.mem_cons_of_mem _ (List.mem_cons_of_mem _ (List.mem_cons_of_mem _ (List.mem_cons_self))))
  have C2 := pTwo_any op ta tb
  rw [Hr2.out] at C2
  have Ta := Lib.hid ta
  clear ta
  have Tb := Lib.hid tb
  clear tb
  go_wp2_with fail
  refine C2.mono ?_; rintro e2 w2 ⟨⟨u, rfl, hu⟩, hb⟩
  obtain ⟨S, sn, sc, D, dn, dc, rfl, h1, h2, h3, h4, h5, h6⟩ := hu.tx HBX.out.lt
  replace HBX := Lib.hid ((HBX.out.below hb).push ⟨S, sn, sc, D, dn, dc, rfl, h1, h2, h3, h4, h5, h6⟩)
  clear C2 hb hu h1 h2 h3 h4 h5 h6 Ta Tb
  clear pa0 pa1 pb0 pb1
  go_upto_region 4 with fail
  generalize w2.alloc (.cells #[.slice S sn sc, .slice D dn dc] 27) = v2 at *
  generalize w2.heap.size = gv at *
  skip
  obtain ⟨Sa, sna, sca, Da, dna, dca, pa0, pa1, ta⟩ := HBX.out.get (g := w.heap.size) (s := s0) (d := d0) (List.mem_cons_of_mem _ (List.mem_cons_of_mem _ (List.mem_cons_of_mem _ (List.mem_cons_of_mem _ (List.mem_cons_of_mem _ (List.mem_cons_self))))))
  obtain ⟨Sb, snb, scb, Db, dnb, dcb, pb0, pb1, tb⟩ := HBX.out.get (g := (w.heap.size + 1)) (s := s1) (d := d1) (List.mem_cons_of_mem _ (List.mem_cons_of_mem _ (List.mem_cons_of_mem _ (List.mem_cons_of_mem _ (List.mem_cons_self)))))
  have C3 := ref4Two_any op ta tb
  rw [Hr2.out] at C3
  have Ta := Lib.hid ta
  clear ta
  have Tb := Lib.hid tb
  clear tb
  go_wp2_with fail
  refine C3.mono ?_; rintro e3 w3 ⟨⟨u, rfl, hu⟩, hb⟩
  obtain ⟨S, sn, sc, D, dn, dc, rfl, h1, h2, h3, h4, h5, h6⟩ := hu.tx HBX.out.lt
  replace HBX := Lib.hid ((HBX.out.below hb).push ⟨S, sn, sc, D, dn, dc, rfl, h1, h2, h3, h4, h5, h6⟩)
  clear C3 hb hu h1 h2 h3 h4 h5 h6 Ta Tb
  clear pa0 pa1 pb0 pb1
  go_upto_region 5 with fail
  generalize w3.alloc (.cells #[.slice S sn sc, .slice D dn dc] 27) = v3 at *
  generalize w3.heap.size = gw at *
  skip
  obtain ⟨Sc, snc, scc, Dc, dnc, dcc, pc0, pc1, tc⟩ := HBX.out.get (g := (w.heap.size + 1 + 1)) (s := s2) (d := d2) (List.mem_cons_of_mem _ (List.mem_cons_of_mem _ (List.mem_cons_of_mem _ (List.mem_cons_of_mem _ (List.mem_cons_self)))))
  obtain ⟨Sa, sna, sca, Da, dna, dca, pa0, pa1, ta⟩ := HBX.out.get (g := w.heap.size) (s := s0) (d := d0) (List.mem_cons_of_mem _ (List.mem_cons_of_mem _ (List.mem_cons_of_mem _ (List.mem_cons_of_mem _ (List.mem_cons_of_mem _ (List.mem_cons_of_mem _ (List.mem_cons_self)))))))
  obtain ⟨Sb, snb, scb, Db, dnb, dcb, pb0, pb1, tb⟩ := HBX.out.get (g := (w.heap.size + 1)) (s := s1) (d := d1) (List.mem_cons_of_mem _ (List.mem_cons_of_mem _ (List.mem_cons_of_mem _ (List.mem_cons_of_mem _ (List.mem_cons_of_mem _ (List.mem_cons_self))))))
  have C4 := pPick_any tc ta tb
  rw [Hr3.out] at C4
  have Tc := Lib.hid tc
  clear tc
  have Ta := Lib.hid ta
  clear ta
  have Tb := Lib.hid tb
  clear tb
  go_wp2_with fail
  refine C4.mono ?_; rintro e4 w4 ⟨⟨u, rfl, hu⟩, hb⟩
  obtain ⟨S, sn, sc, D, dn, dc, rfl, h1, h2, h3, h4, h5, h6⟩ := hu.tx HBX.out.lt
  replace HBX := Lib.hid ((HBX.out.below hb).push ⟨S, sn, sc, D, dn, dc, rfl, h1, h2, h3, h4, h5, h6⟩)
  clear C4 hb hu h1 h2 h3 h4 h5 h6 Tc Ta Tb
  clear pc0 pc1 pa0 pa1 pb0 pb1
  go_upto_region 6 with fail
  generalize w4.alloc (.cells #[.slice S sn sc, .slice D dn dc] 27) = v4 at *
  generalize w4.heap.size = gx at *
  skip
  obtain ⟨Sc, snc, scc, Dc, dnc, dcc, pc0, pc1, tc⟩ := HBX.out.get (g := (w.heap.size + 1 + 1)) (s := s2) (d := d2) (List.mem_cons_of_mem _ (List.mem_cons_of_mem _ (List.mem_cons_of_mem _ (List.mem_cons_of_mem _ (List.mem_cons_of_mem _ (List.mem_cons_self))))))
  obtain ⟨Sa, sna, sca, Da, dna, dca, pa0, pa1, ta⟩ := HBX.out.get (g := w.heap.size) (s := s0) (d := d0) (List.mem_cons_of_mem _ (List.mem_cons_of_mem _ (List.mem_cons_of_mem _ (List.mem_cons_of_mem _ (List.mem_cons_of_mem _ (List.mem_cons_of_mem _ (List.mem_cons_of_mem _ (List.mem_cons_self))))))))
  obtain ⟨Sb, snb, scb, Db, dnb, dcb, pb0, pb1, tb⟩ := HBX.out.get (g := (w.heap.size + 1)) (s := s1) (d := d1) (List.mem_cons_of_mem _ (List.mem_cons_of_mem _ (List.mem_cons_of_mem _ (List.mem_cons_of_mem _ (List.mem_cons_of_mem _ (List.mem_cons_of_mem _ (List.mem_cons_self)))))))
  have C5 := ref4Pick_any tc ta tb
  rw [Hr3.out] at C5
  have Tc := Lib.hid tc
  clear tc
  have Ta := Lib.hid ta
  clear ta
  have Tb := Lib.hid tb
  clear tb
  go_wp2_with fail
  refine C5.mono ?_; rintro e5 w5 ⟨⟨u, rfl, hu⟩, hb⟩
  obtain ⟨S, sn, sc, D, dn, dc, rfl, h1, h2, h3, h4, h5, h6⟩ := hu.tx HBX.out.lt
  replace HBX := Lib.hid ((HBX.out.below hb).push ⟨S, sn, sc, D, dn, dc, rfl, h1, h2, h3, h4, h5, h6⟩)
  clear C5 hb hu h1 h2 h3 h4 h5 h6 Tc Ta Tb
  clear pc0 pc1 pa0 pa1 pb0 pb1
  go_upto_region 7 with fail
  generalize w5.alloc (.cells #[.slice S sn sc, .slice D dn dc] 27) = v5 at *
  generalize w5.heap.size = gy at *
  skip
  obtain ⟨St, snt, sct, Dt, dnt, dct, pt0, pt1, tt⟩ := HBX.out.get (g := gt) (s := r1.2.1) (d := r1.2.2) (List.mem_cons_of_mem _ (List.mem_cons_of_mem _ (List.mem_cons_of_mem _ (List.mem_cons_of_mem _ (List.mem_cons_of_mem _ (List.mem_cons_self))))))
  obtain ⟨Su, snu, scu, Du, dnu, dcu, pu0, pu1, tu⟩ := HBX.out.get (g := gu) (s := r1.2.1) (d := r1.2.2) (List.mem_cons_of_mem _ (List.mem_cons_of_mem _ (List.mem_cons_of_mem _ (List.mem_cons_of_mem _ (List.mem_cons_self)))))
  have C6 := refSame_eq tt tu
  clear tt tu
  go_wp2_with fail
  refine C6.mono ?_; rintro e6 w6 ⟨rfl, hb⟩
  replace HBX := Lib.hid (HBX.out.below hb)
  clear C6 hb
  clear pt0 pt1 pu0 pu1
  obtain ⟨Sv, snv, scv, Dv, dnv, dcv, pv0, pv1, tv⟩ := HBX.out.get (g := gv) (s := r2.2.1) (d := r2.2.2) (List.mem_cons_of_mem _ (List.mem_cons_of_mem _ (List.mem_cons_of_mem _ (List.mem_cons_self))))
  obtain ⟨Sw, snw, scw, Dw, dnw, dcw, pw0, pw1, tw⟩ := HBX.out.get (g := gw) (s := r2.2.1) (d := r2.2.2) (List.mem_cons_of_mem _ (List.mem_cons_of_mem _ (List.mem_cons_self)))
  have C7 := refSame_eq tv tw
  clear tv tw
  go_wp2_with fail
  refine C7.mono ?_; rintro e7 w7 ⟨rfl, hb⟩
  replace HBX := Lib.hid (HBX.out.below hb)
  clear C7 hb
  clear pv0 pv1 pw0 pw1
  obtain ⟨Sx, snx, scx, Dx, dnx, dcx, px0, px1, tx⟩ := HBX.out.get (g := gx) (s := r3.2.1) (d := r3.2.2) (List.mem_cons_of_mem _ (List.mem_cons_self))
  obtain ⟨Sy, sny, scy, Dy, dny, dcy, py0, py1, ty⟩ := HBX.out.get (g := gy) (s := r3.2.1) (d := r3.2.2) (List.mem_cons_self)
  have C8 := refSame_eq tx ty
  clear tx ty
  go_wp2_with fail
  refine C8.mono ?_; rintro e8 w8 ⟨rfl, hb⟩
  replace HBX := Lib.hid (HBX.out.below hb)
  clear C8 hb
  clear px0 px1 py0 py1
  go_wp2
  go_ret
  exact ⟨rfl, HBX.out.base⟩
end Go.Proofs.Ytmekkhegokcpoaa
