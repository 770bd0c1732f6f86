/- The walk of the law PointTruths. -/
import Derived.Test.YtmekkhegokcpoaaL4Known
import Derived.Test.YtmekkhegokcpoaaRef4B
namespace Go.Proofs.Ytmekkhegokcpoaa
open Go.RowKit

theorem pick_less : ∀ {d k : List Int}, k.length = d.length → pick3 (List.zipWith (stepF 11) d k) d k = List.zipWith (stepF 9) d k
  | [], [], _ => rfl
  | [], _ :: _, h => by simp at h
  | _ :: _, [], h => by simp at h
  | x :: d, y :: k, h => by
    simp only [List.zipWith_cons_cons]
    rw [pick3, pick_less (by simpa using h)]
    have e : (if stepF 11 x y = 0 then y else x) = stepF 9 x y := by
      rcases Int.lt_or_le x y with h1 | h1
      · have h2 : ¬ y < x := by omega
        simp [stepF, h1, h2]
      · have h2 : ¬ x < y := by omega
        by_cases h3 : y < x
        · simp [stepF, h2, h3]
        · simp [stepF, h2, h3]; omega
    rw [e]
theorem truth_two (x y : Int) : (stepF 11 x y = 1 ∧ stepF 11 y x = 0 ∧ (x == y) = false) ∨ (stepF 11 x y = 0 ∧ stepF 11 y x = 0 ∧ (x == y) = true) ∨ (stepF 11 x y = 0 ∧ stepF 11 y x = 1 ∧ (x == y) = false) := by
  rcases Int.lt_trichotomy x y with h | h | h
  · exact Or.inl ⟨by simp [stepF, h], by simp [stepF]; omega, by simp; omega⟩
  · exact Or.inr (Or.inl ⟨by simp [stepF]; omega, by simp [stepF]; omega, by simp [h]⟩)
  · exact Or.inr (Or.inr ⟨by simp [stepF]; omega, by simp [stepF, h], by simp; omega⟩)
theorem truth_one (x : Int) : (stepF 5 x 0 = 1 ∧ stepF 5 (stepF 5 x 0) 0 = 0 ∧ (x != 0) = false) ∨ (stepF 5 x 0 = 0 ∧ stepF 5 (stepF 5 x 0) 0 = 1 ∧ (x != 0) = true) := by
  by_cases h : x = 0
  · exact Or.inl ⟨by simp [stepF, h], by simp [stepF, h], by simp [h]⟩
  · exact Or.inr ⟨by simp [stepF, h], by simp [stepF, h], by simp [h]⟩

set_option maxRecDepth 100000 in
set_option maxHeartbeats 12800000 in
theorem ptruths_walk {w : World} {A2 : Option Addr} {n2 c2 : Nat} {x0 : List Int} (h2 : Ints w A2 n2 x0) :
    Calls Try.prog 6 #[.slice A2 n2 c2] w fun e w' => e = .returned (.bool true) ∧ Below w.heap.size w w' := by
  have q1 := (Below.refl w.heap.size w).alloc (Nat.le_refl _) (.cells #[.slice A2 n2 c2, .int .i64 0] 32)
  have hT := tape_new (c := c2) h2
  have x1 := Bx.start (g0 := some w.heap.size) q1 (fun g hg => by injection hg with hg; have := size_alloc w (.cells #[.slice A2 n2 c2, .int .i64 0] 32); omega)
  have HBX := Lib.hid x1
  have HTP := Lib.hid hT
  clear q1 hT x1 h2
  go_enter Try.func6, Try.ntmps6
  go_upto_region 2 with fail
  generalize w.alloc (.cells #[.slice A2 n2 c2, .int .i64 0] 32) = v at *
  have C0 := tapeShape_any HTP.out
  go_wp2_with fail
  refine C0.mono ?_; rintro e0 w0 ⟨⟨v, ns, xss, rfl, hO, hns, hsh⟩, hT, hG⟩
  obtain ⟨As, cs, rfl, hcs, hI, hA⟩ := hO.form
  have Is := Lib.hid (ix_new hI hA HBX.out.lt)
  have Rs := Lib.hid (small_shape (by rw [hI.len]; exact hns) hsh)
  replace HBX := Lib.hid (HBX.out.grown hG)
  replace HTP := Lib.hid hT
  clear C0 hO hI hA hsh hT hG
  have C1 := tapeTensor_any (c := cs) HTP.out Is.out.1 (by omega)
  go_wp2_with fail
  refine C1.mono ?_; rintro e1 w1 ⟨⟨v, da, rfl, hOT, hdl⟩, hT, hG⟩
  obtain ⟨Sa, sna, sca, Da, dna, dca, rfl, h1, h2, h3, h4, h5, h6⟩ := hOT.tx HBX.out.lt
  have Xa : Hid (Tx w1 _ (.agg #[.slice Sa sna sca, .slice Da dna dca]) xss da) := Lib.hid ⟨_, _, _, _, _, _, rfl, h1, h2, h3, h4, h5, h6⟩
  have La := Lib.hid hdl
  replace HBX := Lib.hid (HBX.out.grown hG)
  replace HTP := Lib.hid hT
  replace Is := Lib.hid (Is.out.grown hG)
  clear C1 hOT h1 h2 h3 h4 h5 h6 hdl hT hG
  have C2 := tapeTensor_any (c := cs) HTP.out Is.out.1 (by omega)
  go_wp2_with fail
  refine C2.mono ?_; rintro e2 w2 ⟨⟨v, db, rfl, hOT, hdl⟩, hT, hG⟩
  obtain ⟨Sb, snb, scb, Db, dnb, dcb, rfl, h1, h2, h3, h4, h5, h6⟩ := hOT.tx HBX.out.lt
  have Xb : Hid (Tx w2 _ (.agg #[.slice Sb snb scb, .slice Db dnb dcb]) xss db) := Lib.hid ⟨_, _, _, _, _, _, rfl, h1, h2, h3, h4, h5, h6⟩
  have Lb := Lib.hid hdl
  replace HBX := Lib.hid (HBX.out.grown hG)
  replace HTP := Lib.hid hT
  replace Xa := Lib.hid (Xa.out.grown hG)
  replace Is := Lib.hid (Is.out.grown hG)
  clear C2 hOT h1 h2 h3 h4 h5 h6 hdl hT hG
  have hL1 := La.out
  have hL2 := Lb.out
  have hra : tenRight xss da = true := by simp only [tenRight, Rs.out, Bool.true_and, decide_eq_true_eq]; have := Sh.size_bd xss; omega
  have hln : db.length = da.length := by omega
  have HRT := Lib.hid (fun (l : List Int) (hl : l.length = da.length) => right_same hra hl)
  have HLN := Lib.hid hln
  have HFA := Lib.hid Xa.out.ten.fits
  have HFB := Lib.hid Xb.out.ten.fits
  clear hL1 hL2 hra hln
  obtain ⟨llt, hllt⟩ : ∃ l, List.zipWith (stepF 11) da db = l := ⟨_, rfl⟩
  have Rllt := Lib.hid (HRT.out llt (by rw [← hllt]; have := HLN.out; simp; omega))
  have Hllt := Lib.hid hllt
  clear hllt
  obtain ⟨lgt, hlgt⟩ : ∃ l, List.zipWith (stepF 11) db da = l := ⟨_, rfl⟩
  have Rlgt := Lib.hid (HRT.out lgt (by rw [← hlgt]; have := HLN.out; simp; omega))
  have Hlgt := Lib.hid hlgt
  clear hlgt
  obtain ⟨llo, hllo⟩ : ∃ l, List.zipWith (stepF 9) da db = l := ⟨_, rfl⟩
  have Rllo := Lib.hid (HRT.out llo (by rw [← hllo]; have := HLN.out; simp; omega))
  have Hllo := Lib.hid hllo
  clear hllo
  obtain ⟨lno, hlno⟩ : ∃ l, (da.map fun x => stepF 5 x 0) = l := ⟨_, rfl⟩
  have Rlno := Lib.hid (HRT.out lno (by rw [← hlno]; have := HLN.out; simp))
  have Hlno := Lib.hid hlno
  clear hlno
  obtain ⟨lye, hlye⟩ : ∃ l, (lno.map fun x => stepF 5 x 0) = l := ⟨_, rfl⟩
  have Rlye := Lib.hid (HRT.out lye (by rw [← hlye]; have := HLN.out; rw [List.length_map, ← Hlno.out, List.length_map]))
  have Hlye := Lib.hid hlye
  clear hlye
  have Ra := Lib.hid (HRT.out da rfl)
  have Rb := Lib.hid (HRT.out db HLN.out)
  have Elt := Lib.hid (show twoR 11 xss da xss db = (0, xss, llt) from (twoR_ok (by omega) (by simp [Ra.out, Rb.out])).trans (by rw [Hllt.out]))
  have Egt := Lib.hid (show twoR 11 xss db xss da = (0, xss, lgt) from (twoR_ok (by omega) (by simp [Rb.out, Ra.out])).trans (by rw [Hlgt.out]))
  have Emin := Lib.hid (show twoR 9 xss da xss db = (0, xss, llo) from (twoR_ok (by omega) (by simp [Ra.out, Rb.out])).trans (by rw [Hllo.out]))
  have Elo := Lib.hid (show pickR xss llt xss da xss db = (0, xss, llo) from (pickR_ok (by simp [Rllt.out, Ra.out, Rb.out])).trans (by rw [← Hllt.out, pick_less HLN.out, Hllo.out]))
  have Eno := Lib.hid (show oneR 5 xss da = (0, xss, lno) from (oneR_ok (by omega) Ra.out).trans (by rw [Hlno.out]))
  have Eye := Lib.hid (show oneR 5 xss lno = (0, xss, lye) from (oneR_ok (by omega) Rlno.out).trans (by rw [Hlye.out]))
  have HLL := Lib.hid (show llt.length = da.length ∧ lgt.length = da.length ∧ lye.length = da.length ∧ lno.length = da.length by rw [← Hllt.out, ← Hlgt.out, ← Hlye.out, ← Hlno.out]; have := HLN.out; simp; omega)
  clear La Lb
  have hx := (Below.refl (w2).heap.size (w2)).alloc (Nat.le_refl _) (.cells #[.slice Sa sna sca, .slice Da dna dca] 27)
  replace HBX := Lib.hid (HBX.out.push Xa.out)
  replace HTP := Lib.hid (HTP.out.below hx)
  replace Xb := Lib.hid (Xb.out.below hx)
  replace Is := Lib.hid (Is.out.below hx)
  clear hx Xa
  have hx := (Below.refl ((w2.alloc (.cells #[.slice Sa sna sca, .slice Da dna dca] 27))).heap.size ((w2.alloc (.cells #[.slice Sa sna sca, .slice Da dna dca] 27)))).alloc (Nat.le_refl _) (.cells #[.slice Sb snb scb, .slice Db dnb dcb] 27)
  replace HBX := Lib.hid (HBX.out.push Xb.out)
  replace HTP := Lib.hid (HTP.out.below hx)
  replace Is := Lib.hid (Is.out.below hx)
  clear hx Xb
  replace HBX := by have := HBX.out; rw [size_alloc] at this; exact Lib.hid this
  go_upto_region 4 with fail
  generalize (w2.alloc (.cells #[.slice Sa sna sca, .slice Da dna dca] 27)).alloc (.cells #[.slice Sb snb scb, .slice Db dnb dcb] 27) = v3 at *
  skip
  generalize hgb : w2.heap.size + 1 = gb at *
  generalize w2.heap.size = ga at *
  clear hgb
  obtain ⟨Sa, sna, sca, Da, dna, dca, pa0, pa1, ta⟩ := HBX.out.get (g := ga) (s := xss) (d := da) (List.mem_cons_of_mem _ (List.mem_cons_self))
  obtain ⟨Sb, snb, scb, Db, dnb, dcb, pb0, pb1, tb⟩ := HBX.out.get (g := gb) (s := xss) (d := db) (List.mem_cons_self)
  have C4 := pTwo_any 11 ta tb
  rw [Elt.out] at C4
  have Ta := Lib.hid ta
  clear ta
  have Tb := Lib.hid tb
  clear tb
  go_wp2_with fail
  refine C4.mono ?_; rintro e4 w4 ⟨⟨u, rfl, hu⟩, hb⟩
  obtain ⟨S, sn, sc, D, dn, dc, rfl, h1, h2, h3, h4, h5, h6⟩ := hu.tx HBX.out.lt
  replace HBX := Lib.hid ((HBX.out.below hb).push ⟨S, sn, sc, D, dn, dc, rfl, h1, h2, h3, h4, h5, h6⟩)
  have hax := then_ hb ((Below.refl w4.heap.size w4).alloc (Nat.le_refl _) (.cells #[.slice S sn sc, .slice D dn dc] 27))
  replace HTP := Lib.hid (HTP.out.below hax)
  replace Is := Lib.hid (Is.out.below hax)
  clear hax
  clear C4 hb hu h1 h2 h3 h4 h5 h6 Ta Tb
  clear pa0 pa1 pb0 pb1
  go_upto_region 5 with fail
  generalize w4.alloc (.cells #[.slice S sn sc, .slice D dn dc] 27) = v4 at *
  generalize w4.heap.size = glt at *
  skip
  obtain ⟨Sa, sna, sca, Da, dna, dca, pa0, pa1, ta⟩ := HBX.out.get (g := ga) (s := xss) (d := da) (List.mem_cons_of_mem _ (List.mem_cons_of_mem _ (List.mem_cons_self)))
  obtain ⟨Sb, snb, scb, Db, dnb, dcb, pb0, pb1, tb⟩ := HBX.out.get (g := gb) (s := xss) (d := db) (List.mem_cons_of_mem _ (List.mem_cons_self))
  have C5 := pTwo_any 11 tb ta
  rw [Egt.out] at C5
  have Ta := Lib.hid ta
  clear ta
  have Tb := Lib.hid tb
  clear tb
  go_wp2_with fail
  refine C5.mono ?_; rintro e5 w5 ⟨⟨u, rfl, hu⟩, hb⟩
  obtain ⟨S, sn, sc, D, dn, dc, rfl, h1, h2, h3, h4, h5, h6⟩ := hu.tx HBX.out.lt
  replace HBX := Lib.hid ((HBX.out.below hb).push ⟨S, sn, sc, D, dn, dc, rfl, h1, h2, h3, h4, h5, h6⟩)
  have hax := then_ hb ((Below.refl w5.heap.size w5).alloc (Nat.le_refl _) (.cells #[.slice S sn sc, .slice D dn dc] 27))
  replace HTP := Lib.hid (HTP.out.below hax)
  replace Is := Lib.hid (Is.out.below hax)
  clear hax
  clear C5 hb hu h1 h2 h3 h4 h5 h6 Ta Tb
  clear pa0 pa1 pb0 pb1
  go_upto_region 6 with fail
  generalize w5.alloc (.cells #[.slice S sn sc, .slice D dn dc] 27) = v5 at *
  generalize w5.heap.size = ggt at *
  skip
  obtain ⟨Slt, snlt, sclt, Dlt, dnlt, dclt, plt0, plt1, tlt⟩ := HBX.out.get (g := glt) (s := xss) (d := llt) (List.mem_cons_of_mem _ (List.mem_cons_self))
  obtain ⟨Sa, sna, sca, Da, dna, dca, pa0, pa1, ta⟩ := HBX.out.get (g := ga) (s := xss) (d := da) (List.mem_cons_of_mem _ (List.mem_cons_of_mem _ (List.mem_cons_of_mem _ (List.mem_cons_self))))
  obtain ⟨Sb, snb, scb, Db, dnb, dcb, pb0, pb1, tb⟩ := HBX.out.get (g := gb) (s := xss) (d := db) (List.mem_cons_of_mem _ (List.mem_cons_of_mem _ (List.mem_cons_self)))
  have C6 := pPick_any tlt ta tb
  rw [Elo.out] at C6
  have Tlt := Lib.hid tlt
  clear tlt
  have Ta := Lib.hid ta
  clear ta
  have Tb := Lib.hid tb
  clear tb
  go_wp2_with fail
  refine C6.mono ?_; rintro e6 w6 ⟨⟨u, rfl, hu⟩, hb⟩
  obtain ⟨S, sn, sc, D, dn, dc, rfl, h1, h2, h3, h4, h5, h6⟩ := hu.tx HBX.out.lt
  replace HBX := Lib.hid ((HBX.out.below hb).push ⟨S, sn, sc, D, dn, dc, rfl, h1, h2, h3, h4, h5, h6⟩)
  have hax := then_ hb ((Below.refl w6.heap.size w6).alloc (Nat.le_refl _) (.cells #[.slice S sn sc, .slice D dn dc] 27))
  replace HTP := Lib.hid (HTP.out.below hax)
  replace Is := Lib.hid (Is.out.below hax)
  clear hax
  clear C6 hb hu h1 h2 h3 h4 h5 h6 Tlt Ta Tb
  clear plt0 plt1 pa0 pa1 pb0 pb1
  go_upto_region 7 with fail
  generalize w6.alloc (.cells #[.slice S sn sc, .slice D dn dc] 27) = v6 at *
  generalize w6.heap.size = glo at *
  skip
  obtain ⟨Sa, sna, sca, Da, dna, dca, pa0, pa1, ta⟩ := HBX.out.get (g := ga) (s := xss) (d := da) (List.mem_cons_of_mem _ (List.mem_cons_of_mem _ (List.mem_cons_of_mem _ (List.mem_cons_of_mem _ (List.mem_cons_self)))))
  obtain ⟨Sb, snb, scb, Db, dnb, dcb, pb0, pb1, tb⟩ := HBX.out.get (g := gb) (s := xss) (d := db) (List.mem_cons_of_mem _ (List.mem_cons_of_mem _ (List.mem_cons_of_mem _ (List.mem_cons_self))))
  have C7 := pTwo_any 9 ta tb
  rw [Emin.out] at C7
  have Ta := Lib.hid ta
  clear ta
  have Tb := Lib.hid tb
  clear tb
  go_wp2_with fail
  refine C7.mono ?_; rintro e7 w7 ⟨⟨u, rfl, hu⟩, hb⟩
  obtain ⟨S, sn, sc, D, dn, dc, rfl, h1, h2, h3, h4, h5, h6⟩ := hu.tx HBX.out.lt
  replace HBX := Lib.hid ((HBX.out.below hb).push ⟨S, sn, sc, D, dn, dc, rfl, h1, h2, h3, h4, h5, h6⟩)
  have hax := then_ hb ((Below.refl w7.heap.size w7).alloc (Nat.le_refl _) (.cells #[.slice S sn sc, .slice D dn dc] 27))
  replace HTP := Lib.hid (HTP.out.below hax)
  replace Is := Lib.hid (Is.out.below hax)
  clear hax
  clear C7 hb hu h1 h2 h3 h4 h5 h6 Ta Tb
  clear pa0 pa1 pb0 pb1
  go_upto_region 8 with fail
  generalize w7.alloc (.cells #[.slice S sn sc, .slice D dn dc] 27) = v7 at *
  generalize w7.heap.size = gmin at *
  skip
  obtain ⟨Sa, sna, sca, Da, dna, dca, pa0, pa1, ta⟩ := HBX.out.get (g := ga) (s := xss) (d := da) (List.mem_cons_of_mem _ (List.mem_cons_of_mem _ (List.mem_cons_of_mem _ (List.mem_cons_of_mem _ (List.mem_cons_of_mem _ (List.mem_cons_self))))))
  have C8 := pOne_any 5 ta
  rw [Eno.out] at C8
  have Ta := Lib.hid ta
  clear ta
  go_wp2_with fail
  refine C8.mono ?_; rintro e8 w8 ⟨⟨u, rfl, hu⟩, hb⟩
  obtain ⟨S, sn, sc, D, dn, dc, rfl, h1, h2, h3, h4, h5, h6⟩ := hu.tx HBX.out.lt
  replace HBX := Lib.hid ((HBX.out.below hb).push ⟨S, sn, sc, D, dn, dc, rfl, h1, h2, h3, h4, h5, h6⟩)
  have hax := then_ hb ((Below.refl w8.heap.size w8).alloc (Nat.le_refl _) (.cells #[.slice S sn sc, .slice D dn dc] 27))
  replace HTP := Lib.hid (HTP.out.below hax)
  replace Is := Lib.hid (Is.out.below hax)
  clear hax
  clear C8 hb hu h1 h2 h3 h4 h5 h6 Ta
  clear pa0 pa1
  go_upto_region 9 with fail
  generalize w8.alloc (.cells #[.slice S sn sc, .slice D dn dc] 27) = v8 at *
  generalize w8.heap.size = gno at *
  skip
  obtain ⟨Sno, snno, scno, Dno, dnno, dcno, pno0, pno1, tno⟩ := HBX.out.get (g := gno) (s := xss) (d := lno) (List.mem_cons_self)
  have C9 := pOne_any 5 tno
  rw [Eye.out] at C9
  have Tno := Lib.hid tno
  clear tno
  go_wp2_with fail
  refine C9.mono ?_; rintro e9 w9 ⟨⟨u, rfl, hu⟩, hb⟩
  obtain ⟨S, sn, sc, D, dn, dc, rfl, h1, h2, h3, h4, h5, h6⟩ := hu.tx HBX.out.lt
  replace HBX := Lib.hid ((HBX.out.below hb).push ⟨S, sn, sc, D, dn, dc, rfl, h1, h2, h3, h4, h5, h6⟩)
  have hax := then_ hb ((Below.refl w9.heap.size w9).alloc (Nat.le_refl _) (.cells #[.slice S sn sc, .slice D dn dc] 27))
  replace HTP := Lib.hid (HTP.out.below hax)
  replace Is := Lib.hid (Is.out.below hax)
  clear hax
  clear C9 hb hu h1 h2 h3 h4 h5 h6 Tno
  clear pno0 pno1
  go_upto_region 10 with fail
  generalize w9.alloc (.cells #[.slice S sn sc, .slice D dn dc] 27) = v9 at *
  generalize w9.heap.size = gye at *
  skip
  obtain ⟨Slo, snlo, sclo, Dlo, dnlo, dclo, plo0, plo1, tlo⟩ := HBX.out.get (g := glo) (s := xss) (d := llo) (List.mem_cons_of_mem _ (List.mem_cons_of_mem _ (List.mem_cons_of_mem _ (List.mem_cons_self))))
  obtain ⟨Smin, snmin, scmin, Dmin, dnmin, dcmin, pmin0, pmin1, tmin⟩ := HBX.out.get (g := gmin) (s := xss) (d := llo) (List.mem_cons_of_mem _ (List.mem_cons_of_mem _ (List.mem_cons_self)))
  have C10 := refSame_eq tlo tmin
  clear tlo tmin
  go_wp2_with fail
  refine C10.mono ?_; rintro e10 w10 ⟨rfl, hb⟩
  replace HBX := Lib.hid (HBX.out.below hb)
  clear C10 hb
  clear plo0 plo1 pmin0 pmin1
  obtain ⟨Slt, snlt, sclt, Dlt, dnlt, dclt, plt0, plt1, tlt⟩ := HBX.out.get (g := glt) (s := xss) (d := llt) (List.mem_cons_of_mem _ (List.mem_cons_of_mem _ (List.mem_cons_of_mem _ (List.mem_cons_of_mem _ (List.mem_cons_of_mem _ (List.mem_cons_self))))))
  obtain ⟨Sgt, sngt, scgt, Dgt, dngt, dcgt, pgt0, pgt1, tgt⟩ := HBX.out.get (g := ggt) (s := xss) (d := lgt) (List.mem_cons_of_mem _ (List.mem_cons_of_mem _ (List.mem_cons_of_mem _ (List.mem_cons_of_mem _ (List.mem_cons_self)))))
  obtain ⟨Sye, snye, scye, Dye, dnye, dcye, pye0, pye1, tye⟩ := HBX.out.get (g := gye) (s := xss) (d := lye) (List.mem_cons_self)
  obtain ⟨Sno, snno, scno, Dno, dnno, dcno, pno0, pno1, tno⟩ := HBX.out.get (g := gno) (s := xss) (d := lno) (List.mem_cons_of_mem _ (List.mem_cons_self))
  obtain ⟨Sa, sna, sca, Da, dna, dca, pa0, pa1, ta⟩ := HBX.out.get (g := ga) (s := xss) (d := da) (List.mem_cons_of_mem _ (List.mem_cons_of_mem _ (List.mem_cons_of_mem _ (List.mem_cons_of_mem _ (List.mem_cons_of_mem _ (List.mem_cons_of_mem _ (List.mem_cons_of_mem _ (List.mem_cons_self))))))))
  obtain ⟨Sb, snb, scb, Db, dnb, dcb, pb0, pb1, tb⟩ := HBX.out.get (g := gb) (s := xss) (d := db) (List.mem_cons_of_mem _ (List.mem_cons_of_mem _ (List.mem_cons_of_mem _ (List.mem_cons_of_mem _ (List.mem_cons_of_mem _ (List.mem_cons_of_mem _ (List.mem_cons_self)))))))
  obtain ⟨_, Ilt⟩ := ten_ints tlt
  obtain ⟨_, Igt⟩ := ten_ints tgt
  obtain ⟨_, Iye⟩ := ten_ints tye
  obtain ⟨_, Ino⟩ := ten_ints tno
  obtain ⟨_, Ia⟩ := ten_ints ta
  obtain ⟨_, Ib⟩ := ten_ints tb
  obtain ⟨N, hN⟩ : ∃ n, da.length = n := ⟨_, rfl⟩
  obtain rfl : dnlt = N := by have := Ilt.len; have := HLL.out; have := HLN.out; omega
  obtain rfl : dnlt = dngt := by have := Igt.len; have := HLL.out; have := HLN.out; omega
  obtain rfl : dnlt = dnye := by have := Iye.len; have := HLL.out; have := HLN.out; omega
  obtain rfl : dnlt = dnno := by have := Ino.len; have := HLL.out; have := HLN.out; omega
  obtain rfl : dnlt = dna := by have := Ia.len; have := HLL.out; have := HLN.out; omega
  obtain rfl : dnlt = dnb := by have := Ib.len; have := HLL.out; have := HLN.out; omega
  have hNle := Ia.le
  have HNN := Lib.hid hN
  clear hN tlt plt0 tgt pgt0 tye pye0 tno pno0 ta pa0 tb pb0
  go_wp2_with fail
  go_loopw [109] (fun kv wr => ∃ j : Nat, kv = .int .i64 j ∧ j ≤ dnlt ∧ ∃ q, wr = w10.drewN q) (fun kv _ => dnlt - (intOf kv).toNat)
  case atStart => exact ⟨0, rfl, by omega, 0, rfl⟩
  case round =>
    obtain ⟨j, rfl, hj, q, rfl⟩ := hrel
    by_cases hlt : j < dnlt
    · obtain ⟨adlt, xlt, rfl, hblt, hxlt, hclt, hflt⟩ := Ilt.at_ (k := j) hlt
      obtain ⟨adgt, xgt, rfl, hbgt, hxgt, hcgt, hfgt⟩ := Igt.at_ (k := j) hlt
      obtain ⟨adye, xye, rfl, hbye, hxye, hcye, hfye⟩ := Iye.at_ (k := j) hlt
      obtain ⟨adno, xno, rfl, hbno, hxno, hcno, hfno⟩ := Ino.at_ (k := j) hlt
      obtain ⟨ada, xa, rfl, hba, hxa, hca, hfa⟩ := Ia.at_ (k := j) hlt
      obtain ⟨adb, xb, rfl, hbb, hxb, hcb, hfb⟩ := Ib.at_ (k := j) hlt
      obtain rfl : stepF 11 xa xb = xlt := by have := hxlt; rw [← Hllt.out, zip_at hxa hxb] at this; injection this
      obtain rfl : stepF 11 xb xa = xgt := by have := hxgt; rw [← Hlgt.out, zip_at hxb hxa] at this; injection this
      obtain rfl : stepF 5 xa 0 = xno := by have := hxno; rw [← Hlno.out, map_at hxa] at this; injection this
      obtain rfl : stepF 5 (stepF 5 xa 0) 0 = xye := by have := hxye; rw [← Hlye.out, map_at hxno] at this; injection this
      have HC1 := Lib.hid (truth_two xa xb)
      have HC2 := Lib.hid (truth_one xa)
      clear hxlt hflt hblt
      clear hxgt hfgt hbgt
      clear hxye hfye hbye
      clear hxno hfno hbno
      clear hxa hfa hba
      clear hxb hfb hbb
      obtain ⟨zlt, hzlt⟩ : ∃ z, stepF 11 xa xb = z := ⟨_, rfl⟩
      obtain ⟨zgt, hzgt⟩ : ∃ z, stepF 11 xb xa = z := ⟨_, rfl⟩
      obtain ⟨zye, hzye⟩ : ∃ z, stepF 5 (stepF 5 xa 0) 0 = z := ⟨_, rfl⟩
      obtain ⟨zno, hzno⟩ : ∃ z, stepF 5 xa 0 = z := ⟨_, rfl⟩
      have hC1 := HC1.out
      have hC2 := HC2.out
      rw [hzlt] at hC1 hclt
      rw [hzgt] at hC1 hcgt
      rw [hzye] at hC2 hcye
      rw [hzno] at hC2 hcno
      clear HC1 HC2 hzlt hzgt hzye hzno
      rcases hC1 with ⟨rfl, rfl, he⟩ | ⟨rfl, rfl, he⟩ | ⟨rfl, rfl, he⟩
      all_goals (
        rcases hC2 with ⟨rfl, rfl, hz⟩ | ⟨rfl, rfl, hz⟩
        all_goals (
          go_wp2_with fail
          go_quiet (fail)
          go_wp2_with fail
          go_quiet (fail)
          go_wp2
          go_roundw
          case rel => exact ⟨j + 1, by go_num, by omega, _, rfl⟩
          case measure => simp [intOf]; omega))
    · obtain rfl : j = dnlt := by omega
      go_wp2_with fail
      refine (l4known_any _).mono ?_; rintro e w9 ⟨rfl, hb⟩
      go_wp2
      go_ret
      exact ⟨rfl, ((HBX.out.grown (grown_drewN _ q _)).below hb).base⟩
end Go.Proofs.Ytmekkhegokcpoaa
