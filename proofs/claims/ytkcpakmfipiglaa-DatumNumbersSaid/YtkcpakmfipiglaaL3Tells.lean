/- The law function tells of stage 3. -/
import Derived.Test.YtkcpakmfipiglaaDatumC
namespace Go.Proofs.Ytkcpakmfipiglaa
open Go.RowKit

set_option maxRecDepth 100000 in
set_option maxHeartbeats 3200000 in
theorem ltells_any {w : World} {v t : Value} {k : Int} {o : Option (List Int × List Int)} {s d : List Int} (h : Datum w v k o) (hsm : Small v) (ht : Ten w t s d) (hs : ∀ x, o = some x → s = x.1 ∧ d = x.2) :
    Calls Try.prog 19 #[v, .int .i64 k, t, .bool (datHas o)] w fun e w' => e = .returned (.bool true) ∧ Below w.heap.size w w' := by
  obtain ⟨As, ns, cs, Bd, nd, cd, rfl, hsc, hdc, hS, hD⟩ := ht
  have hb0 := (Below.refl w.heap.size w).alloc (Nat.le_refl _) (.cells #[.slice As ns cs, .slice Bd nd cd] 26)
  have hg0 := heap_alloc_new w (.cells #[.slice As ns cs, .slice Bd nd cd] 26)
  have hkk : (k == k) = true := by simp
  have hkn : (k != k) = false := by simp
  go_enter Try.func19, Try.ntmps19
  go_upto_region 1 with fail
  generalize w.alloc (.cells #[.slice As ns cs, .slice Bd nd cd] 26) = w1 at *
  have HT := Lib.hid (ten_mk (hS.below hb0) hsc (hD.below hb0) hdc)
  have HT0 := Lib.hid (cell0_of hg0)
  have HT1 := Lib.hid (cell1_of hg0)
  have HV := Lib.hid (h.below hb0)
  have HB := Lib.hid hb0
  have HSO := Lib.hid hs
  have HSM := Lib.hid hsm
  clear hb0 hg0 hS hD h hs hsm
  -- t, is
  go_wp2_with fail
  obtain ⟨oh, hoh⟩ : ∃ b, datHas o = b := ⟨_, rfl⟩
  rw [hoh]
  refine (dTensor_any HV.out HSM.out).mono ?_; rw [hoh]; rintro e w2 ⟨⟨va, rfl, hva⟩, hb2⟩
  have HOH := Lib.hid hoh
  obtain ⟨A1, n1, c1, B1, m1, e1, rfl, hnc1, hme1, hS1, hD1⟩ := hva.ten
  have HN1 := Lib.hid hS1.len
  have HM1 := Lib.hid hD1.len
  have hg2 := heap_alloc_new w2 (.cells #[.slice A1 n1 c1, .slice B1 m1 e1] 26)
  have hx2 := (Below.refl w2.heap.size w2).alloc (Nat.le_refl _) (.cells #[.slice A1 n1 c1, .slice B1 m1 e1] 26)
  have hb3 := then_ hb2 hx2
  have HA := Lib.hid (hva.ten.below hx2)
  replace HT := Lib.hid (HT.out.below hb3)
  replace HT0 := Lib.hid (box_keep hb3 HT0.out)
  replace HT1 := Lib.hid (box_keep hb3 HT1.out)
  replace HV := Lib.hid (HV.out.below hb3)
  replace HB := Lib.hid (then_ HB.out hb3)
  clear hb2 hS1 hD1 hva hb3 hx2 hoh
  go_upto_region 2 with fail
  generalize w2.alloc (.cells #[.slice A1 n1 c1, .slice B1 m1 e1] 26) = w3 at *
  have HA0 := Lib.hid (cell0_of hg2)
  have HA1 := Lib.hid (cell1_of hg2)
  generalize w2.heap.size = ga at *
  clear hg2
  -- m
  go_wp2_with fail
  refine (dMust_any HV.out HSM.out).mono ?_; rintro e w4 ⟨⟨vb, rfl, hvb⟩, hb4⟩
  obtain ⟨A2, n2, c2, B2, m2, e2, rfl, hnc2, hme2, _, _⟩ := hvb.ten
  have hg4 := heap_alloc_new w4 (.cells #[.slice A2 n2 c2, .slice B2 m2 e2] 26)
  have hx4 := (Below.refl w4.heap.size w4).alloc (Nat.le_refl _) (.cells #[.slice A2 n2 c2, .slice B2 m2 e2] 26)
  have hb5 := then_ hb4 hx4
  have HM := Lib.hid (hvb.ten.below hx4)
  replace HA := Lib.hid (HA.out.below hb5)
  replace HA0 := Lib.hid (box_keep hb5 HA0.out)
  replace HA1 := Lib.hid (box_keep hb5 HA1.out)
  replace HT := Lib.hid (HT.out.below hb5)
  replace HT0 := Lib.hid (box_keep hb5 HT0.out)
  replace HT1 := Lib.hid (box_keep hb5 HT1.out)
  replace HV := Lib.hid (HV.out.below hb5)
  replace HB := Lib.hid (then_ HB.out hb5)
  clear hb4 hvb hb5 hx4
  go_upto_region 3 with fail
  generalize w4.alloc (.cells #[.slice A2 n2 c2, .slice B2 m2 e2] 26) = w5 at *
  have HM0 := Lib.hid (cell0_of hg4)
  have HMc := Lib.hid (cell1_of hg4)
  generalize w4.heap.size = gm at *
  clear hg4
  go_wp2_with fail
  refine (dKind_any HV.out).mono ?_; rintro e w6 ⟨rfl, hb6⟩
  replace HM := Lib.hid (HM.out.below hb6)
  replace HM0 := Lib.hid (box_keep hb6 HM0.out)
  replace HMc := Lib.hid (box_keep hb6 HMc.out)
  replace HA := Lib.hid (HA.out.below hb6)
  replace HA0 := Lib.hid (box_keep hb6 HA0.out)
  replace HA1 := Lib.hid (box_keep hb6 HA1.out)
  replace HT := Lib.hid (HT.out.below hb6)
  replace HT0 := Lib.hid (box_keep hb6 HT0.out)
  replace HT1 := Lib.hid (box_keep hb6 HT1.out)
  replace HB := Lib.hid (then_ HB.out hb6)
  clear hb6 HV
  have a0 := HA0.out
  have a1 := HA1.out
  have c0 := HM0.out
  have c1' := HMc.out
  have t0 := HT0.out
  have t1 := HT1.out
  cases oh with
  | false =>
    have ho : o = none := by have := HOH.out; unfold datHas at this; cases o <;> simp_all
    subst ho
    obtain rfl : n1 = 0 := HN1.out.symm
    obtain rfl : m1 = 0 := HM1.out.symm
    go_wp2_with fail
    refine (lwhole_any (-1) HM.out).mono ?_; rintro e w7 ⟨rfl, hb7⟩
    replace HB := Lib.hid (then_ HB.out hb7)
    clear hb7
    go_wp2
    go_ret
    exact ⟨rfl, HB.out⟩
  | true =>
    obtain ⟨x, rfl⟩ : ∃ x, o = some x := by have := HOH.out; unfold datHas at this; cases o <;> simp_all
    have hx := HSO.out x rfl
    obtain ⟨rfl, rfl⟩ := hx
    go_wp2_with fail
    refine (refSame_eq HA.out HT.out).mono ?_; rintro e w7 ⟨rfl, hb7⟩
    replace HB := Lib.hid (then_ HB.out hb7)
    replace HM := Lib.hid (HM.out.below hb7)
    replace HT := Lib.hid (HT.out.below hb7)
    have c0 := box_keep hb7 HM0.out
    have c1' := box_keep hb7 HMc.out
    have t0 := box_keep hb7 HT0.out
    have t1 := box_keep hb7 HT1.out
    clear hb7
    go_wp2_with fail
    refine (refSame_eq HM.out HT.out).mono ?_; rintro e w8 ⟨rfl, hb8⟩
    replace HB := Lib.hid (then_ HB.out hb8)
    clear hb8
    go_wp2
    go_ret
    exact ⟨rfl, HB.out⟩
end Go.Proofs.Ytkcpakmfipiglaa
