/- The law function known of stage 3. -/
import Derived.Test.YtkcpakmfipiglaaL3All
namespace Go.Proofs.Ytkcpakmfipiglaa
open Go.RowKit

theorem runes_ab : runesOf ⟨#[97, 98]⟩ = [97, 98] := by kernel_rfl
set_option maxRecDepth 100000 in
set_option maxHeartbeats 3200000 in
theorem l3known_any (w : World) :
    Calls Try.prog 11 #[] w fun e w' => e = .returned (.bool true) ∧ Below w.heap.size w w' := by
  have E1 : rowT (runesOf ⟨#[97, 98]⟩) = some ([2], [97, 98]) := by rw [runes_ab]; rfl
  have hot : Other 4 := by unfold Other; decide
  have HE := Lib.hid E1
  have HO := Lib.hid hot
  clear E1 hot
  go_enter Try.func11, Try.ntmps11
  go_wp2_with fail
  have C1 := dTensor_any (Datum.text (w := w) ⟨#[97, 98]⟩) (fun s' h => by injection h with _ h; injection h with h; rw [← h]; decide)
  rw [HE.out] at C1
  refine C1.mono ?_; rintro e w1 ⟨⟨va, rfl, hva⟩, hb1⟩
  obtain ⟨A1, n1, c1, B1, m1, e1, rfl, hnc1, hme1, hS1, hD1⟩ := hva.ten
  obtain rfl : m1 = 2 := hD1.len.symm
  have hg1 := heap_alloc_new w1 (.cells #[.slice A1 n1 c1, .slice B1 2 e1] 26)
  have hx1 := (Below.refl w1.heap.size w1).alloc (Nat.le_refl _) (.cells #[.slice A1 n1 c1, .slice B1 2 e1] 26)
  have hD2 : Ints w1 B1 2 [97, 98] := hD1
  have HD := Lib.hid (hD2.below hx1)
  have HB := Lib.hid (then_ hb1 hx1)
  clear C1 hb1 hS1 hD1 hD2 hva hx1
  go_upto_region 2 with fail
  generalize w1.alloc (.cells #[.slice A1 n1 c1, .slice B1 2 e1] 26) = w2 at *
  have HA1 := Lib.hid (cell1_of hg1)
  generalize w1.heap.size = ga at *
  clear hg1
  go_wp2_with fail
  have C1 := dTensor_any (Datum.other (w := w2) (v := .bool true) HO.out) (fun _ h => by simp at h)
  refine C1.mono ?_; rintro e w3 ⟨⟨vb, rfl, hvb⟩, hb3⟩
  obtain ⟨A2, n2, c2, B2, m2, e2, rfl, _, _, _, _⟩ := hvb.ten
  have hx3 := (Below.refl w3.heap.size w3).alloc (Nat.le_refl _) (.cells #[.slice A2 n2 c2, .slice B2 m2 e2] 26)
  have hb4 := then_ hb3 hx3
  replace HD := Lib.hid (HD.out.below hb4)
  replace HA1 := Lib.hid (box_keep hb4 HA1.out)
  replace HB := Lib.hid (then_ HB.out hb4)
  clear C1 hb3 hx3 hvb hb4
  go_upto_region 3 with fail
  generalize w3.alloc (.cells #[.slice A2 n2 c2, .slice B2 m2 e2] 26) = w4 at *
  obtain ⟨bd, x0, rfl, _, hx0, hc0, _⟩ := HD.out.at_ (k := 0) (by omega)
  obtain ⟨bd', x1, e9, _, hx1, hc1, _⟩ := HD.out.at_ (k := 1) (by omega)
  injection e9 with e9
  subst e9
  obtain rfl : x0 = 97 := by simp at hx0; omega
  obtain rfl : x1 = 98 := by simp at hx1; omega
  rw [show bd.add 0 = bd by cases bd; rfl] at hc0
  have a1 := HA1.out
  have hT : datHas (some (([2] : List Int), ([97, 98] : List Int))) = true := rfl
  have hF : datHas (none : Option (List Int × List Int)) = false := rfl
  have hc1' : w4.cell? ⟨bd.block, bd.off + 1, none⟩ = some (.int .i64 98) := hc1
  clear hx0 hx1
  go_wp2_with fail
  refine (dKind_any Datum.nil).mono ?_; rintro e w5 ⟨rfl, hb5⟩
  replace HB := Lib.hid (then_ HB.out hb5)
  clear hb5 a1 hc0 hc1
  go_wp2_with fail
  refine (dMust_any (Datum.other (v := .bool true) HO.out) (fun _ h => by simp at h)).mono ?_; rintro e w6 ⟨⟨vm, rfl, hvm⟩, hb6⟩
  replace HB := Lib.hid (then_ HB.out hb6)
  have HM := Lib.hid hvm.ten
  obtain ⟨A3, n3, c3, B3, m3, e3, rfl, _, _, _, _⟩ := hvm.ten
  clear hb6 hvm
  go_wp2_with fail
  refine (lwhole_any (-1) HM.out).mono ?_; rintro e w7 ⟨rfl, hb7⟩
  replace HB := Lib.hid (then_ HB.out hb7)
  clear hb7
  go_wp2_with fail
  refine (dKind_any Datum.many).mono ?_; rintro e w8 ⟨rfl, hb8⟩
  replace HB := Lib.hid (then_ (HB.out.alloc HB.out.size _) hb8)
  clear hb8
  go_wp2
  go_ret
  exact ⟨rfl, HB.out⟩
end Go.Proofs.Ytkcpakmfipiglaa
