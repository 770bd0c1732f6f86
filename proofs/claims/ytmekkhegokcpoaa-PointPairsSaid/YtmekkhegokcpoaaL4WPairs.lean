/- The walk of the law PointPairs. -/
import Derived.Test.YtmekkhegokcpoaaL4Known
import Derived.Test.YtmekkhegokcpoaaRef4B
namespace Go.Proofs.Ytmekkhegokcpoaa
open Go.RowKit

set_option maxRecDepth 100000 in
set_option maxHeartbeats 12800000 in
theorem ppairs_walk {w : World} {A2 : Option Addr} {n2 c2 : Nat} {x0 : List Int} (h2 : Ints w A2 n2 x0) :
    Calls Try.prog 5 #[.slice A2 n2 c2] w fun e w' => e = .returned (.bool true) ∧ Below w.heap.size w w' := by
  have q1 := (Below.refl w.heap.size w).alloc (Nat.le_refl _) (.cells #[.slice A2 n2 c2, .int .i64 0] 32)
  have hT := tape_new (c := c2) h2
  have x1 := Bx.start (g0 := some w.heap.size) q1 (fun g hg => by injection hg with hg; have := size_alloc w (.cells #[.slice A2 n2 c2, .int .i64 0] 32); omega)
  have HBX := Lib.hid x1
  have HTP := Lib.hid hT
  clear q1 hT x1 h2
  go_enter Try.func5, Try.ntmps5
  go_upto_region 2 with fail
  generalize w.alloc (.cells #[.slice A2 n2 c2, .int .i64 0] 32) = v at *
  have C0 := tapeShape_any HTP.out
  go_wp2_with fail
  refine C0.mono ?_; rintro e0 w0 ⟨⟨v, ns, xss, rfl, hO, hns, hsh⟩, hT, hG⟩
  obtain ⟨As, cs, rfl, hcs, hI, hA⟩ := hO.form
  have Is := Lib.hid (ix_new hI hA HBX.out.lt)
  have Rs := Lib.hid (small_shape (by rw [hI.len]; exact hns) hsh)
  replace HBX := Lib.hid (HBX.out.grown hG)
  replace HTP := Lib.hid hT
  clear C0 hO hI hA hsh hT hG
  have C1 := tapeTensor_any (c := cs) HTP.out Is.out.1 (by omega)
  go_wp2_with fail
  refine C1.mono ?_; rintro e1 w1 ⟨⟨v, da, rfl, hOT, hdl⟩, hT, hG⟩
  obtain ⟨Sa, sna, sca, Da, dna, dca, rfl, h1, h2, h3, h4, h5, h6⟩ := hOT.tx HBX.out.lt
  have Xa : Hid (Tx w1 _ (.agg #[.slice Sa sna sca, .slice Da dna dca]) xss da) := Lib.hid ⟨_, _, _, _, _, _, rfl, h1, h2, h3, h4, h5, h6⟩
  have La := Lib.hid hdl
  replace HBX := Lib.hid (HBX.out.grown hG)
  replace HTP := Lib.hid hT
  replace Is := Lib.hid (Is.out.grown hG)
  clear C1 hOT h1 h2 h3 h4 h5 h6 hdl hT hG
  have C2 := tapeTensor_any (c := cs) HTP.out Is.out.1 (by omega)
  go_wp2_with fail
  refine C2.mono ?_; rintro e2 w2 ⟨⟨v, db, rfl, hOT, hdl⟩, hT, hG⟩
  obtain ⟨Sb, snb, scb, Db, dnb, dcb, rfl, h1, h2, h3, h4, h5, h6⟩ := hOT.tx HBX.out.lt
  have Xb : Hid (Tx w2 _ (.agg #[.slice Sb snb scb, .slice Db dnb dcb]) xss db) := Lib.hid ⟨_, _, _, _, _, _, rfl, h1, h2, h3, h4, h5, h6⟩
  have Lb := Lib.hid hdl
  replace HBX := Lib.hid (HBX.out.grown hG)
  replace HTP := Lib.hid hT
  replace Xa := Lib.hid (Xa.out.grown hG)
  replace Is := Lib.hid (Is.out.grown hG)
  clear C2 hOT h1 h2 h3 h4 h5 h6 hdl hT hG
  have hL1 := La.out
  have hL2 := Lb.out
  have hra : tenRight xss da = true := by simp only [tenRight, Rs.out, Bool.true_and, decide_eq_true_eq]; have := Sh.size_bd xss; omega
  have hln : db.length = da.length := by omega
  have HRT := Lib.hid (fun (l : List Int) (hl : l.length = da.length) => right_same hra hl)
  have HLN := Lib.hid hln
  have HFA := Lib.hid Xa.out.ten.fits
  have HFB := Lib.hid Xb.out.ten.fits
  clear hL1 hL2 hra hln
  obtain ⟨lsum, hlsum⟩ : ∃ l, List.zipWith (stepF 6) da db = l := ⟨_, rfl⟩
  have Rlsum := Lib.hid (HRT.out lsum (by rw [← hlsum]; have := HLN.out; simp; omega))
  have Hlsum := Lib.hid hlsum
  clear hlsum
  obtain ⟨llo, hllo⟩ : ∃ l, List.zipWith (stepF 9) da db = l := ⟨_, rfl⟩
  have Rllo := Lib.hid (HRT.out llo (by rw [← hllo]; have := HLN.out; simp; omega))
  have Hllo := Lib.hid hllo
  clear hllo
  obtain ⟨lhi, hlhi⟩ : ∃ l, List.zipWith (stepF 10) da db = l := ⟨_, rfl⟩
  have Rlhi := Lib.hid (HRT.out lhi (by rw [← hlhi]; have := HLN.out; simp; omega))
  have Hlhi := Lib.hid hlhi
  clear hlhi
  obtain ⟨lneg, hlneg⟩ : ∃ l, (da.map fun x => stepF 4 x 0) = l := ⟨_, rfl⟩
  have Rlneg := Lib.hid (HRT.out lneg (by rw [← hlneg]; have := HLN.out; simp))
  have Hlneg := Lib.hid hlneg
  clear hlneg
  have Ra := Lib.hid (HRT.out da rfl)
  have Rb := Lib.hid (HRT.out db HLN.out)
  have Esum := Lib.hid (show twoR 6 xss da xss db = (0, xss, lsum) from (twoR_ok (by omega) (by simp [Ra.out, Rb.out])).trans (by rw [Hlsum.out]))
  have Eback := Lib.hid (show twoR 7 xss lsum xss db = (0, xss, da) from (twoR_ok (by omega) (by simp [Rlsum.out, Rb.out])).trans (by rw [← Hlsum.out, zip_back HFA.out HLN.out]))
  have Elo := Lib.hid (show twoR 9 xss da xss db = (0, xss, llo) from (twoR_ok (by omega) (by simp [Ra.out, Rb.out])).trans (by rw [Hllo.out]))
  have Ehi := Lib.hid (show twoR 10 xss da xss db = (0, xss, lhi) from (twoR_ok (by omega) (by simp [Ra.out, Rb.out])).trans (by rw [Hlhi.out]))
  have Eboth := Lib.hid (show twoR 6 xss llo xss lhi = (0, xss, lsum) from (twoR_ok (by omega) (by simp [Rllo.out, Rlhi.out])).trans (by rw [← Hllo.out, ← Hlhi.out, zip_minmax, Hlsum.out]))
  have Eneg := Lib.hid (show oneR 4 xss da = (0, xss, lneg) from (oneR_ok (by omega) Ra.out).trans (by rw [Hlneg.out]))
  have Etw := Lib.hid (show oneR 4 xss lneg = (0, xss, da) from (oneR_ok (by omega) Rlneg.out).trans (by rw [← Hlneg.out, map_neg HFA.out]))
  have HSZ := Lib.hid (show (Sh.size xss).toNat = da.length by have := La.out; omega)
  have Ethird := Lib.hid (show pickR xss (List.replicate (Sh.size xss).toNat 0) xss da xss db = (0, xss, db) from (pickR_ok (by rw [HRT.out _ (by rw [List.length_replicate, HSZ.out]), Ra.out, Rb.out]; simp)).trans (by rw [HSZ.out, pick_none HLN.out]))
  have Esecond := Lib.hid (show pickR xss (List.replicate (Sh.size xss).toNat (-5)) xss da xss db = (0, xss, da) from (pickR_ok (by rw [HRT.out _ (by rw [List.length_replicate, HSZ.out]), Ra.out, Rb.out]; simp)).trans (by rw [HSZ.out, pick_all (by omega) HLN.out]))
  clear La Lb
  have hx := (Below.refl (w2).heap.size (w2)).alloc (Nat.le_refl _) (.cells #[.slice Sa sna sca, .slice Da dna dca] 27)
  replace HBX := Lib.hid (HBX.out.push Xa.out)
  replace HTP := Lib.hid (HTP.out.below hx)
  replace Xb := Lib.hid (Xb.out.below hx)
  replace Is := Lib.hid (Is.out.below hx)
  clear hx Xa
  have hx := (Below.refl ((w2.alloc (.cells #[.slice Sa sna sca, .slice Da dna dca] 27))).heap.size ((w2.alloc (.cells #[.slice Sa sna sca, .slice Da dna dca] 27)))).alloc (Nat.le_refl _) (.cells #[.slice Sb snb scb, .slice Db dnb dcb] 27)
  replace HBX := Lib.hid (HBX.out.push Xb.out)
  replace HTP := Lib.hid (HTP.out.below hx)
  replace Is := Lib.hid (Is.out.below hx)
  clear hx Xb
  replace HBX := by have := HBX.out; rw [size_alloc] at this; exact Lib.hid this
  go_upto_region 4 with fail
  generalize (w2.alloc (.cells #[.slice Sa sna sca, .slice Da dna dca] 27)).alloc (.cells #[.slice Sb snb scb, .slice Db dnb dcb] 27) = v3 at *
  skip
  generalize hgb : w2.heap.size + 1 = gb at *
  generalize w2.heap.size = ga at *
  clear hgb
  obtain ⟨Sa, sna, sca, Da, dna, dca, pa0, pa1, ta⟩ := HBX.out.get (g := ga) (s := xss) (d := da) (List.mem_cons_of_mem _ (List.mem_cons_self))
  obtain ⟨Sb, snb, scb, Db, dnb, dcb, pb0, pb1, tb⟩ := HBX.out.get (g := gb) (s := xss) (d := db) (List.mem_cons_self)
  have C4 := pTwo_any 6 ta tb
  rw [Esum.out] at C4
  have Ta := Lib.hid ta
  clear ta
  have Tb := Lib.hid tb
  clear tb
  go_wp2_with fail
  refine C4.mono ?_; rintro e4 w4 ⟨⟨u, rfl, hu⟩, hb⟩
  obtain ⟨S, sn, sc, D, dn, dc, rfl, h1, h2, h3, h4, h5, h6⟩ := hu.tx HBX.out.lt
  replace HBX := Lib.hid ((HBX.out.below hb).push ⟨S, sn, sc, D, dn, dc, rfl, h1, h2, h3, h4, h5, h6⟩)
  have hax := then_ hb ((Below.refl w4.heap.size w4).alloc (Nat.le_refl _) (.cells #[.slice S sn sc, .slice D dn dc] 27))
  replace HTP := Lib.hid (HTP.out.below hax)
  replace Is := Lib.hid (Is.out.below hax)
  clear hax
  clear C4 hb hu h1 h2 h3 h4 h5 h6 Ta Tb
  clear pa0 pa1 pb0 pb1
  go_upto_region 5 with fail
  generalize w4.alloc (.cells #[.slice S sn sc, .slice D dn dc] 27) = v4 at *
  generalize w4.heap.size = gsum at *
  skip
  obtain ⟨Ssum, snsum, scsum, Dsum, dnsum, dcsum, psum0, psum1, tsum⟩ := HBX.out.get (g := gsum) (s := xss) (d := lsum) (List.mem_cons_self)
  obtain ⟨Sb, snb, scb, Db, dnb, dcb, pb0, pb1, tb⟩ := HBX.out.get (g := gb) (s := xss) (d := db) (List.mem_cons_of_mem _ (List.mem_cons_self))
  have C5 := pTwo_any 7 tsum tb
  rw [Eback.out] at C5
  have Tsum := Lib.hid tsum
  clear tsum
  have Tb := Lib.hid tb
  clear tb
  go_wp2_with fail
  refine C5.mono ?_; rintro e5 w5 ⟨⟨u, rfl, hu⟩, hb⟩
  obtain ⟨S, sn, sc, D, dn, dc, rfl, h1, h2, h3, h4, h5, h6⟩ := hu.tx HBX.out.lt
  replace HBX := Lib.hid ((HBX.out.below hb).push ⟨S, sn, sc, D, dn, dc, rfl, h1, h2, h3, h4, h5, h6⟩)
  have hax := then_ hb ((Below.refl w5.heap.size w5).alloc (Nat.le_refl _) (.cells #[.slice S sn sc, .slice D dn dc] 27))
  replace HTP := Lib.hid (HTP.out.below hax)
  replace Is := Lib.hid (Is.out.below hax)
  clear hax
  clear C5 hb hu h1 h2 h3 h4 h5 h6 Tsum Tb
  clear psum0 psum1 pb0 pb1
  go_upto_region 6 with fail
  generalize w5.alloc (.cells #[.slice S sn sc, .slice D dn dc] 27) = v5 at *
  generalize w5.heap.size = gback at *
  skip
  obtain ⟨Sa, sna, sca, Da, dna, dca, pa0, pa1, ta⟩ := HBX.out.get (g := ga) (s := xss) (d := da) (List.mem_cons_of_mem _ (List.mem_cons_of_mem _ (List.mem_cons_of_mem _ (List.mem_cons_self))))
  obtain ⟨Sb, snb, scb, Db, dnb, dcb, pb0, pb1, tb⟩ := HBX.out.get (g := gb) (s := xss) (d := db) (List.mem_cons_of_mem _ (List.mem_cons_of_mem _ (List.mem_cons_self)))
  have C6 := pTwo_any 9 ta tb
  rw [Elo.out] at C6
  have Ta := Lib.hid ta
  clear ta
  have Tb := Lib.hid tb
  clear tb
  go_wp2_with fail
  refine C6.mono ?_; rintro e6 w6 ⟨⟨u, rfl, hu⟩, hb⟩
  obtain ⟨S, sn, sc, D, dn, dc, rfl, h1, h2, h3, h4, h5, h6⟩ := hu.tx HBX.out.lt
  replace HBX := Lib.hid ((HBX.out.below hb).push ⟨S, sn, sc, D, dn, dc, rfl, h1, h2, h3, h4, h5, h6⟩)
  have hax := then_ hb ((Below.refl w6.heap.size w6).alloc (Nat.le_refl _) (.cells #[.slice S sn sc, .slice D dn dc] 27))
  replace HTP := Lib.hid (HTP.out.below hax)
  replace Is := Lib.hid (Is.out.below hax)
  clear hax
  clear C6 hb hu h1 h2 h3 h4 h5 h6 Ta Tb
  clear pa0 pa1 pb0 pb1
  go_upto_region 7 with fail
  generalize w6.alloc (.cells #[.slice S sn sc, .slice D dn dc] 27) = v6 at *
  generalize w6.heap.size = glo at *
  skip
  obtain ⟨Sa, sna, sca, Da, dna, dca, pa0, pa1, ta⟩ := HBX.out.get (g := ga) (s := xss) (d := da) (List.mem_cons_of_mem _ (List.mem_cons_of_mem _ (List.mem_cons_of_mem _ (List.mem_cons_of_mem _ (List.mem_cons_self)))))
  obtain ⟨Sb, snb, scb, Db, dnb, dcb, pb0, pb1, tb⟩ := HBX.out.get (g := gb) (s := xss) (d := db) (List.mem_cons_of_mem _ (List.mem_cons_of_mem _ (List.mem_cons_of_mem _ (List.mem_cons_self))))
  have C7 := pTwo_any 10 ta tb
  rw [Ehi.out] at C7
  have Ta := Lib.hid ta
  clear ta
  have Tb := Lib.hid tb
  clear tb
  go_wp2_with fail
  refine C7.mono ?_; rintro e7 w7 ⟨⟨u, rfl, hu⟩, hb⟩
  obtain ⟨S, sn, sc, D, dn, dc, rfl, h1, h2, h3, h4, h5, h6⟩ := hu.tx HBX.out.lt
  replace HBX := Lib.hid ((HBX.out.below hb).push ⟨S, sn, sc, D, dn, dc, rfl, h1, h2, h3, h4, h5, h6⟩)
  have hax := then_ hb ((Below.refl w7.heap.size w7).alloc (Nat.le_refl _) (.cells #[.slice S sn sc, .slice D dn dc] 27))
  replace HTP := Lib.hid (HTP.out.below hax)
  replace Is := Lib.hid (Is.out.below hax)
  clear hax
  clear C7 hb hu h1 h2 h3 h4 h5 h6 Ta Tb
  clear pa0 pa1 pb0 pb1
  go_upto_region 8 with fail
  generalize w7.alloc (.cells #[.slice S sn sc, .slice D dn dc] 27) = v7 at *
  generalize w7.heap.size = ghi at *
  skip
  obtain ⟨Slo, snlo, sclo, Dlo, dnlo, dclo, plo0, plo1, tlo⟩ := HBX.out.get (g := glo) (s := xss) (d := llo) (List.mem_cons_of_mem _ (List.mem_cons_self))
  obtain ⟨Shi, snhi, schi, Dhi, dnhi, dchi, phi0, phi1, thi⟩ := HBX.out.get (g := ghi) (s := xss) (d := lhi) (List.mem_cons_self)
  have C8 := pTwo_any 6 tlo thi
  rw [Eboth.out] at C8
  have Tlo := Lib.hid tlo
  clear tlo
  have Thi := Lib.hid thi
  clear thi
  go_wp2_with fail
  refine C8.mono ?_; rintro e8 w8 ⟨⟨u, rfl, hu⟩, hb⟩
  obtain ⟨S, sn, sc, D, dn, dc, rfl, h1, h2, h3, h4, h5, h6⟩ := hu.tx HBX.out.lt
  replace HBX := Lib.hid ((HBX.out.below hb).push ⟨S, sn, sc, D, dn, dc, rfl, h1, h2, h3, h4, h5, h6⟩)
  have hax := then_ hb ((Below.refl w8.heap.size w8).alloc (Nat.le_refl _) (.cells #[.slice S sn sc, .slice D dn dc] 27))
  replace HTP := Lib.hid (HTP.out.below hax)
  replace Is := Lib.hid (Is.out.below hax)
  clear hax
  clear C8 hb hu h1 h2 h3 h4 h5 h6 Tlo Thi
  clear plo0 plo1 phi0 phi1
  go_upto_region 9 with fail
  generalize w8.alloc (.cells #[.slice S sn sc, .slice D dn dc] 27) = v8 at *
  generalize w8.heap.size = gboth at *
  skip
  obtain ⟨Sa, sna, sca, Da, dna, dca, pa0, pa1, ta⟩ := HBX.out.get (g := ga) (s := xss) (d := da) (List.mem_cons_of_mem _ (List.mem_cons_of_mem _ (List.mem_cons_of_mem _ (List.mem_cons_of_mem _ (List.mem_cons_of_mem _ (List.mem_cons_of_mem _ (List.mem_cons_self)))))))
  have C9 := pOne_any 4 ta
  rw [Eneg.out] at C9
  have Ta := Lib.hid ta
  clear ta
  go_wp2_with fail
  refine C9.mono ?_; rintro e9 w9 ⟨⟨u, rfl, hu⟩, hb⟩
  obtain ⟨S, sn, sc, D, dn, dc, rfl, h1, h2, h3, h4, h5, h6⟩ := hu.tx HBX.out.lt
  replace HBX := Lib.hid ((HBX.out.below hb).push ⟨S, sn, sc, D, dn, dc, rfl, h1, h2, h3, h4, h5, h6⟩)
  have hax := then_ hb ((Below.refl w9.heap.size w9).alloc (Nat.le_refl _) (.cells #[.slice S sn sc, .slice D dn dc] 27))
  replace HTP := Lib.hid (HTP.out.below hax)
  replace Is := Lib.hid (Is.out.below hax)
  clear hax
  clear C9 hb hu h1 h2 h3 h4 h5 h6 Ta
  clear pa0 pa1
  go_upto_region 10 with fail
  generalize w9.alloc (.cells #[.slice S sn sc, .slice D dn dc] 27) = v9 at *
  generalize w9.heap.size = gneg at *
  skip
  obtain ⟨Sneg, snneg, scneg, Dneg, dnneg, dcneg, pneg0, pneg1, tneg⟩ := HBX.out.get (g := gneg) (s := xss) (d := lneg) (List.mem_cons_self)
  have C10 := pOne_any 4 tneg
  rw [Etw.out] at C10
  have Tneg := Lib.hid tneg
  clear tneg
  go_wp2_with fail
  refine C10.mono ?_; rintro e10 w10 ⟨⟨u, rfl, hu⟩, hb⟩
  obtain ⟨S, sn, sc, D, dn, dc, rfl, h1, h2, h3, h4, h5, h6⟩ := hu.tx HBX.out.lt
  replace HBX := Lib.hid ((HBX.out.below hb).push ⟨S, sn, sc, D, dn, dc, rfl, h1, h2, h3, h4, h5, h6⟩)
  have hax := then_ hb ((Below.refl w10.heap.size w10).alloc (Nat.le_refl _) (.cells #[.slice S sn sc, .slice D dn dc] 27))
  replace HTP := Lib.hid (HTP.out.below hax)
  replace Is := Lib.hid (Is.out.below hax)
  clear hax
  clear C10 hb hu h1 h2 h3 h4 h5 h6 Tneg
  clear pneg0 pneg1
  go_upto_region 11 with fail
  generalize w10.alloc (.cells #[.slice S sn sc, .slice D dn dc] 27) = v10 at *
  generalize w10.heap.size = gtwice at *
  skip
  obtain ⟨Sa, sna, sca, Da, dna, dca, pa0, pa1, ta⟩ := HBX.out.get (g := ga) (s := xss) (d := da) (List.mem_cons_of_mem _ (List.mem_cons_of_mem _ (List.mem_cons_of_mem _ (List.mem_cons_of_mem _ (List.mem_cons_of_mem _ (List.mem_cons_of_mem _ (List.mem_cons_of_mem _ (List.mem_cons_of_mem _ (List.mem_cons_self)))))))))
  have Ta := Lib.hid ta
  clear ta
  have ka0 := fun o => alloc_keep o pa0
  have ka1 := fun o => alloc_keep o pa1
  skip
  obtain ⟨Sb, snb, scb, Db, dnb, dcb, pb0, pb1, tb⟩ := HBX.out.get (g := gb) (s := xss) (d := db) (List.mem_cons_of_mem _ (List.mem_cons_of_mem _ (List.mem_cons_of_mem _ (List.mem_cons_of_mem _ (List.mem_cons_of_mem _ (List.mem_cons_of_mem _ (List.mem_cons_of_mem _ (List.mem_cons_self))))))))
  have Tb := Lib.hid tb
  clear tb
  have kb0 := fun o => alloc_keep o pb0
  have kb1 := fun o => alloc_keep o pb1
  skip
  have nga : v10.heap.size ≠ ga := Nat.ne_of_gt (block_lt_of_cell pa0)
  have ngb : v10.heap.size ≠ gb := Nat.ne_of_gt (block_lt_of_cell pb0)
  have bz : Below v10.heap.size v10 (v10.alloc (.cells #[.slice none 0 0, .slice none 0 0] 27)).drew := ((Below.refl _ _).alloc (Nat.le_refl _) _).drew
  have zz : (v10.alloc (.cells #[.slice none 0 0, .slice none 0 0] 27)).drew.heap[v10.heap.size]? = some (.cells #[.slice none 0 0, .slice none 0 0] 27 (0, 0)) := heap_alloc_new v10 _
  have BZ := Lib.hid bz
  have ZZ := Lib.hid zz
  clear bz zz
  go_cut [21, 22] (fun p q wx => ∃ gx : Nat, p = .pointer (some ⟨gx, 0, none⟩) ∧ q = .int .i64 (0) ∧ Bx w wx (some w.heap.size) ((gx, xss, db) :: [(gtwice, xss, da), (gneg, xss, lneg), (gboth, xss, lsum), (ghi, xss, lhi), (glo, xss, llo), (gback, xss, da), (gsum, xss, lsum), (gb, xss, db), (ga, xss, da)]) ∧ Below v10.heap.size v10 wx)
  case first =>
    go_region_held3 (fun w' => w'.cell? ⟨ga, 0, none⟩ = some (.slice Sa sna sca) ∧ w'.cell? ⟨ga, 1, none⟩ = some (.slice Da dna dca) ∧ w'.cell? ⟨gb, 0, none⟩ = some (.slice Sb snb scb) ∧ w'.cell? ⟨gb, 1, none⟩ = some (.slice Db dnb dcb)) (go_keep)
      (first
        | (go_at_call 17; refine (refFill_any 0 (by first | exact Is.out.1.drew | exact (Is.out.1.alloc _).drew) (by omega) ⟨by omega, by omega⟩).mono ?_; rintro e w6 ⟨⟨vf, rfl, hvf⟩, hb6⟩; (first | have hb6' : Below v10.heap.size v10 w6 := (Below.refl v10.heap.size v10).drew.trans hb6 | (have hb6' : Below v10.heap.size v10 w6 := then_ BZ.out hb6; have HZ6 := Lib.hid ((hb6.block v10.heap.size (by simp)).trans ZZ.out))); have ca0 := box_keep hb6' pa0; have qca0 := fun o => alloc_keep o ca0; have ca1 := box_keep hb6' pa1; have qca1 := fun o => alloc_keep o ca1; have cb0 := box_keep hb6' pb0; have qcb0 := fun o => alloc_keep o cb0; have cb1 := box_keep hb6' pb1; have qcb1 := fun o => alloc_keep o cb1; have nha : w6.heap.size ≠ ga := Nat.ne_of_gt (block_lt_of_cell ca0); have nhb : w6.heap.size ≠ gb := Nat.ne_of_gt (block_lt_of_cell cb0); have Ua := Lib.hid (Ta.out.below hb6'); have Ub := Lib.hid (Tb.out.below hb6'); have HVF := Lib.hid hvf.ten; have HB6 := Lib.hid hb6'; clear hvf)
        | (go_at_call 16; have hz6 := HZ6.out; have CC := pPick_any HVF.out Ua.out Ub.out; rw [Ethird.out] at CC; refine CC.mono ?_; rintro e w7 ⟨⟨vu, rfl, hvu⟩, hb7⟩; have HB7 := Lib.hid (then_ HB6.out hb7); have da0 := box_keep hb7 ca0; have da1 := box_keep hb7 ca1; have db0 := box_keep hb7 cb0; have db1 := box_keep hb7 cb1; have hz7 := (hb7.block v10.heap.size (heap_lt_ hz6)).trans hz6; have z0 := cell0_of hz7; have z1 := cell1_of hz7; have y0 := frozen_of_row _ _ 0 _ _ hz7; have y1 := frozen_of_row _ _ 1 _ _ hz7; have HZ7 := Lib.hid hz7; clear hz7; obtain ⟨S, sn, sc, D, dn, dc, rfl, _⟩ := hvu.ten; have HVU := Lib.hid hvu; clear hvu)
        | (go_at_call 16; have CC := pPick_any HVF.out Ua.out Ub.out; rw [Ethird.out] at CC; refine CC.mono ?_; rintro e w7 ⟨⟨vu, rfl, hvu⟩, hb7⟩; have HB7 := Lib.hid (then_ HB6.out hb7); have da0 := box_keep hb7 ca0; have da1 := box_keep hb7 ca1; have db0 := box_keep hb7 cb0; have db1 := box_keep hb7 cb1; obtain ⟨S, sn, sc, D, dn, dc, rfl, _⟩ := hvu.ten; have HVU := Lib.hid hvu; clear hvu)
        | (go_at_call 16; have bz6 := (Below.refl w6.heap.size w6).alloc (Nat.le_refl _) (.cells #[.slice none 0 0, .slice none 0 0] 27); have CC := pPick_any (HVF.out.below bz6) (Ua.out.below bz6) (Ub.out.below bz6); rw [Ethird.out] at CC; refine CC.mono ?_; rintro e w7 ⟨⟨vu, rfl, hvu⟩, hb7⟩; have HB7 := Lib.hid (then_ (then_ HB6.out bz6) hb7); have da0 := box_keep hb7 (alloc_keep _ ca0); have da1 := box_keep hb7 (alloc_keep _ ca1); have db0 := box_keep hb7 (alloc_keep _ cb0); have db1 := box_keep hb7 (alloc_keep _ cb1); have hz7 := (hb7.block w6.heap.size (by simp)).trans (heap_alloc_new w6 _); have z0 := cell0_of hz7; have z1 := cell1_of hz7; have y0 := frozen_of_row _ _ 0 _ _ hz7; have y1 := frozen_of_row _ _ 1 _ _ hz7; have HZ7 := Lib.hid hz7; clear hz7; obtain ⟨S, sn, sc, D, dn, dc, rfl, _⟩ := hvu.ten; have HVU := Lib.hid hvu; clear hvu))
    all_goals go_wp2_with fail
    all_goals go_meet
    · exact ⟨_, rfl, rfl, HBX.out.late HB7.out HVU.out (by have := HB6.out.size; omega), HB7.out.alloc HB7.out.size _⟩
    · exact ⟨_, rfl, rfl, HBX.out.early HB7.out HVU.out HB6.out.size (by rw [size_alloc]; omega) HZ7.out, (HB7.out.setCell (p := ⟨w6.heap.size, 0, none⟩) HB6.out.size _).setCell (p := ⟨w6.heap.size, 1, none⟩) HB6.out.size _⟩
    · exact ⟨_, rfl, rfl, HBX.out.early HB7.out HVU.out (Nat.le_refl _) (heap_lt_ HZ6.out) HZ7.out, (HB7.out.setCell (p := ⟨v10.heap.size, 0, none⟩) (Nat.le_refl _) _).setCell (p := ⟨v10.heap.size, 1, none⟩) (Nat.le_refl _) _⟩
  case rest =>
    obtain ⟨gthird, rfl, rfl, hbx, hb⟩ := hcut
    replace HBX := Lib.hid hbx
    replace HTP := Lib.hid (HTP.out.below hb)
    replace Is := Lib.hid (Is.out.below hb)
    clear hbx hb BZ ZZ pa0 pa1 ka0 ka1 nga Ta pb0 pb1 kb0 kb1 ngb Tb
    go_upto_region 12 with fail
    obtain ⟨Sa, sna, sca, Da, dna, dca, pa0, pa1, ta⟩ := HBX.out.get (g := ga) (s := xss) (d := da) (List.mem_cons_of_mem _ (List.mem_cons_of_mem _ (List.mem_cons_of_mem _ (List.mem_cons_of_mem _ (List.mem_cons_of_mem _ (List.mem_cons_of_mem _ (List.mem_cons_of_mem _ (List.mem_cons_of_mem _ (List.mem_cons_of_mem _ (List.mem_cons_self))))))))))
    have Ta := Lib.hid ta
    clear ta
    have ka0 := fun o => alloc_keep o pa0
    have ka1 := fun o => alloc_keep o pa1
    skip
    obtain ⟨Sb, snb, scb, Db, dnb, dcb, pb0, pb1, tb⟩ := HBX.out.get (g := gb) (s := xss) (d := db) (List.mem_cons_of_mem _ (List.mem_cons_of_mem _ (List.mem_cons_of_mem _ (List.mem_cons_of_mem _ (List.mem_cons_of_mem _ (List.mem_cons_of_mem _ (List.mem_cons_of_mem _ (List.mem_cons_of_mem _ (List.mem_cons_self)))))))))
    have Tb := Lib.hid tb
    clear tb
    have kb0 := fun o => alloc_keep o pb0
    have kb1 := fun o => alloc_keep o pb1
    skip
    have nga : wc.heap.size ≠ ga := Nat.ne_of_gt (block_lt_of_cell pa0)
    have ngb : wc.heap.size ≠ gb := Nat.ne_of_gt (block_lt_of_cell pb0)
    have bz : Below wc.heap.size wc (wc.alloc (.cells #[.slice none 0 0, .slice none 0 0] 27)).drew := ((Below.refl _ _).alloc (Nat.le_refl _) _).drew
    have zz : (wc.alloc (.cells #[.slice none 0 0, .slice none 0 0] 27)).drew.heap[wc.heap.size]? = some (.cells #[.slice none 0 0, .slice none 0 0] 27 (0, 0)) := heap_alloc_new wc _
    have BZ := Lib.hid bz
    have ZZ := Lib.hid zz
    clear bz zz
    go_cut [23, 24] (fun p q wx => ∃ gx : Nat, p = .pointer (some ⟨gx, 0, none⟩) ∧ q = .int .i64 (0) ∧ Bx w wx (some w.heap.size) ((gx, xss, da) :: [(gthird, xss, db), (gtwice, xss, da), (gneg, xss, lneg), (gboth, xss, lsum), (ghi, xss, lhi), (glo, xss, llo), (gback, xss, da), (gsum, xss, lsum), (gb, xss, db), (ga, xss, da)]) ∧ Below wc.heap.size wc wx)
    case first =>
      go_region_held3 (fun w' => w'.cell? ⟨ga, 0, none⟩ = some (.slice Sa sna sca) ∧ w'.cell? ⟨ga, 1, none⟩ = some (.slice Da dna dca) ∧ w'.cell? ⟨gb, 0, none⟩ = some (.slice Sb snb scb) ∧ w'.cell? ⟨gb, 1, none⟩ = some (.slice Db dnb dcb)) (go_keep)
        (first
          | (go_at_call 17; refine (refFill_any (-5) (by first | exact Is.out.1.drew | exact (Is.out.1.alloc _).drew) (by omega) ⟨by omega, by omega⟩).mono ?_; rintro e w6 ⟨⟨vf, rfl, hvf⟩, hb6⟩; (first | have hb6' : Below wc.heap.size wc w6 := (Below.refl wc.heap.size wc).drew.trans hb6 | (have hb6' : Below wc.heap.size wc w6 := then_ BZ.out hb6; have HZ6 := Lib.hid ((hb6.block wc.heap.size (by simp)).trans ZZ.out))); have ca0 := box_keep hb6' pa0; have qca0 := fun o => alloc_keep o ca0; have ca1 := box_keep hb6' pa1; have qca1 := fun o => alloc_keep o ca1; have cb0 := box_keep hb6' pb0; have qcb0 := fun o => alloc_keep o cb0; have cb1 := box_keep hb6' pb1; have qcb1 := fun o => alloc_keep o cb1; have nha : w6.heap.size ≠ ga := Nat.ne_of_gt (block_lt_of_cell ca0); have nhb : w6.heap.size ≠ gb := Nat.ne_of_gt (block_lt_of_cell cb0); have Ua := Lib.hid (Ta.out.below hb6'); have Ub := Lib.hid (Tb.out.below hb6'); have HVF := Lib.hid hvf.ten; have HB6 := Lib.hid hb6'; clear hvf)
          | (go_at_call 16; have hz6 := HZ6.out; have CC := pPick_any HVF.out Ua.out Ub.out; rw [Esecond.out] at CC; refine CC.mono ?_; rintro e w7 ⟨⟨vu, rfl, hvu⟩, hb7⟩; have HB7 := Lib.hid (then_ HB6.out hb7); have da0 := box_keep hb7 ca0; have da1 := box_keep hb7 ca1; have db0 := box_keep hb7 cb0; have db1 := box_keep hb7 cb1; have hz7 := (hb7.block wc.heap.size (heap_lt_ hz6)).trans hz6; have z0 := cell0_of hz7; have z1 := cell1_of hz7; have y0 := frozen_of_row _ _ 0 _ _ hz7; have y1 := frozen_of_row _ _ 1 _ _ hz7; have HZ7 := Lib.hid hz7; clear hz7; obtain ⟨S, sn, sc, D, dn, dc, rfl, _⟩ := hvu.ten; have HVU := Lib.hid hvu; clear hvu)
          | (go_at_call 16; have CC := pPick_any HVF.out Ua.out Ub.out; rw [Esecond.out] at CC; refine CC.mono ?_; rintro e w7 ⟨⟨vu, rfl, hvu⟩, hb7⟩; have HB7 := Lib.hid (then_ HB6.out hb7); have da0 := box_keep hb7 ca0; have da1 := box_keep hb7 ca1; have db0 := box_keep hb7 cb0; have db1 := box_keep hb7 cb1; obtain ⟨S, sn, sc, D, dn, dc, rfl, _⟩ := hvu.ten; have HVU := Lib.hid hvu; clear hvu)
          | (go_at_call 16; have bz6 := (Below.refl w6.heap.size w6).alloc (Nat.le_refl _) (.cells #[.slice none 0 0, .slice none 0 0] 27); have CC := pPick_any (HVF.out.below bz6) (Ua.out.below bz6) (Ub.out.below bz6); rw [Esecond.out] at CC; refine CC.mono ?_; rintro e w7 ⟨⟨vu, rfl, hvu⟩, hb7⟩; have HB7 := Lib.hid (then_ (then_ HB6.out bz6) hb7); have da0 := box_keep hb7 (alloc_keep _ ca0); have da1 := box_keep hb7 (alloc_keep _ ca1); have db0 := box_keep hb7 (alloc_keep _ cb0); have db1 := box_keep hb7 (alloc_keep _ cb1); have hz7 := (hb7.block w6.heap.size (by simp)).trans (heap_alloc_new w6 _); have z0 := cell0_of hz7; have z1 := cell1_of hz7; have y0 := frozen_of_row _ _ 0 _ _ hz7; have y1 := frozen_of_row _ _ 1 _ _ hz7; have HZ7 := Lib.hid hz7; clear hz7; obtain ⟨S, sn, sc, D, dn, dc, rfl, _⟩ := hvu.ten; have HVU := Lib.hid hvu; clear hvu))
      all_goals go_wp2_with fail
      all_goals go_meet
      · exact ⟨_, rfl, rfl, HBX.out.late HB7.out HVU.out (by have := HB6.out.size; omega), HB7.out.alloc HB7.out.size _⟩
      · exact ⟨_, rfl, rfl, HBX.out.early HB7.out HVU.out HB6.out.size (by rw [size_alloc]; omega) HZ7.out, (HB7.out.setCell (p := ⟨w6.heap.size, 0, none⟩) HB6.out.size _).setCell (p := ⟨w6.heap.size, 1, none⟩) HB6.out.size _⟩
      · exact ⟨_, rfl, rfl, HBX.out.early HB7.out HVU.out (Nat.le_refl _) (heap_lt_ HZ6.out) HZ7.out, (HB7.out.setCell (p := ⟨wc.heap.size, 0, none⟩) (Nat.le_refl _) _).setCell (p := ⟨wc.heap.size, 1, none⟩) (Nat.le_refl _) _⟩
    case rest =>
      obtain ⟨gsecond, rfl, rfl, hbx, hb⟩ := hcut
      replace HBX := Lib.hid hbx
      replace HTP := Lib.hid (HTP.out.below hb)
      replace Is := Lib.hid (Is.out.below hb)
      clear hbx hb BZ ZZ pa0 pa1 ka0 ka1 nga Ta pb0 pb1 kb0 kb1 ngb Tb
      go_upto_region 13 with fail
      skip
      obtain ⟨Sback, snback, scback, Dback, dnback, dcback, pback0, pback1, tback⟩ := HBX.out.get (g := gback) (s := xss) (d := da) (List.mem_cons_of_mem _ (List.mem_cons_of_mem _ (List.mem_cons_of_mem _ (List.mem_cons_of_mem _ (List.mem_cons_of_mem _ (List.mem_cons_of_mem _ (List.mem_cons_of_mem _ (List.mem_cons_self))))))))
      obtain ⟨Sa, sna, sca, Da, dna, dca, pa0, pa1, ta⟩ := HBX.out.get (g := ga) (s := xss) (d := da) (List.mem_cons_of_mem _ (List.mem_cons_of_mem _ (List.mem_cons_of_mem _ (List.mem_cons_of_mem _ (List.mem_cons_of_mem _ (List.mem_cons_of_mem _ (List.mem_cons_of_mem _ (List.mem_cons_of_mem _ (List.mem_cons_of_mem _ (List.mem_cons_of_mem _ (List.mem_cons_self)))))))))))
      have C13 := refSame_eq tback ta
      clear tback ta
      go_wp2_with fail
      refine C13.mono ?_; rintro e13 w13 ⟨rfl, hb⟩
      replace HBX := Lib.hid (HBX.out.below hb)
      clear C13 hb
      clear pback0 pback1 pa0 pa1
      obtain ⟨Sboth, snboth, scboth, Dboth, dnboth, dcboth, pboth0, pboth1, tboth⟩ := HBX.out.get (g := gboth) (s := xss) (d := lsum) (List.mem_cons_of_mem _ (List.mem_cons_of_mem _ (List.mem_cons_of_mem _ (List.mem_cons_of_mem _ (List.mem_cons_self)))))
      obtain ⟨Ssum, snsum, scsum, Dsum, dnsum, dcsum, psum0, psum1, tsum⟩ := HBX.out.get (g := gsum) (s := xss) (d := lsum) (List.mem_cons_of_mem _ (List.mem_cons_of_mem _ (List.mem_cons_of_mem _ (List.mem_cons_of_mem _ (List.mem_cons_of_mem _ (List.mem_cons_of_mem _ (List.mem_cons_of_mem _ (List.mem_cons_of_mem _ (List.mem_cons_self)))))))))
      have C14 := refSame_eq tboth tsum
      clear tboth tsum
      go_wp2_with fail
      refine C14.mono ?_; rintro e14 w14 ⟨rfl, hb⟩
      replace HBX := Lib.hid (HBX.out.below hb)
      clear C14 hb
      clear pboth0 pboth1 psum0 psum1
      obtain ⟨Stwice, sntwice, sctwice, Dtwice, dntwice, dctwice, ptwice0, ptwice1, ttwice⟩ := HBX.out.get (g := gtwice) (s := xss) (d := da) (List.mem_cons_of_mem _ (List.mem_cons_of_mem _ (List.mem_cons_self)))
      obtain ⟨Sa, sna, sca, Da, dna, dca, pa0, pa1, ta⟩ := HBX.out.get (g := ga) (s := xss) (d := da) (List.mem_cons_of_mem _ (List.mem_cons_of_mem _ (List.mem_cons_of_mem _ (List.mem_cons_of_mem _ (List.mem_cons_of_mem _ (List.mem_cons_of_mem _ (List.mem_cons_of_mem _ (List.mem_cons_of_mem _ (List.mem_cons_of_mem _ (List.mem_cons_of_mem _ (List.mem_cons_self)))))))))))
      have C15 := refSame_eq ttwice ta
      clear ttwice ta
      go_wp2_with fail
      refine C15.mono ?_; rintro e15 w15 ⟨rfl, hb⟩
      replace HBX := Lib.hid (HBX.out.below hb)
      clear C15 hb
      clear ptwice0 ptwice1 pa0 pa1
      obtain ⟨Sthird, snthird, scthird, Dthird, dnthird, dcthird, pthird0, pthird1, tthird⟩ := HBX.out.get (g := gthird) (s := xss) (d := db) (List.mem_cons_of_mem _ (List.mem_cons_self))
      obtain ⟨Sb, snb, scb, Db, dnb, dcb, pb0, pb1, tb⟩ := HBX.out.get (g := gb) (s := xss) (d := db) (List.mem_cons_of_mem _ (List.mem_cons_of_mem _ (List.mem_cons_of_mem _ (List.mem_cons_of_mem _ (List.mem_cons_of_mem _ (List.mem_cons_of_mem _ (List.mem_cons_of_mem _ (List.mem_cons_of_mem _ (List.mem_cons_of_mem _ (List.mem_cons_self))))))))))
      have C16 := refSame_eq tthird tb
      clear tthird tb
      go_wp2_with fail
      refine C16.mono ?_; rintro e16 w16 ⟨rfl, hb⟩
      replace HBX := Lib.hid (HBX.out.below hb)
      clear C16 hb
      clear pthird0 pthird1 pb0 pb1
      obtain ⟨Ssecond, snsecond, scsecond, Dsecond, dnsecond, dcsecond, psecond0, psecond1, tsecond⟩ := HBX.out.get (g := gsecond) (s := xss) (d := da) (List.mem_cons_self)
      obtain ⟨Sa, sna, sca, Da, dna, dca, pa0, pa1, ta⟩ := HBX.out.get (g := ga) (s := xss) (d := da) (List.mem_cons_of_mem _ (List.mem_cons_of_mem _ (List.mem_cons_of_mem _ (List.mem_cons_of_mem _ (List.mem_cons_of_mem _ (List.mem_cons_of_mem _ (List.mem_cons_of_mem _ (List.mem_cons_of_mem _ (List.mem_cons_of_mem _ (List.mem_cons_of_mem _ (List.mem_cons_self)))))))))))
      have C17 := refSame_eq tsecond ta
      clear tsecond ta
      go_wp2_with fail
      refine C17.mono ?_; rintro e17 w17 ⟨rfl, hb⟩
      replace HBX := Lib.hid (HBX.out.below hb)
      clear C17 hb
      clear psecond0 psecond1 pa0 pa1
      go_wp2_with fail
      refine (l4known_any _).mono ?_; rintro e18 w18 ⟨rfl, hb⟩
      replace HBX := Lib.hid (HBX.out.below hb)
      clear hb
      go_wp2
      go_ret
      exact ⟨rfl, HBX.out.base⟩
end Go.Proofs.Ytmekkhegokcpoaa
