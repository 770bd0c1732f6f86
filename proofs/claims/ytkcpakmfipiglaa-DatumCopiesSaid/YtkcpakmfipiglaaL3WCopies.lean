/- DatumCopies: the walk. -/
import Derived.Test.YtkcpakmfipiglaaL3Known
import Derived.Test.YtkcpakmfipiglaaRefB
import Derived.Deep.DeepCutAuto
import Derived.Deep.RegionHeld3
import Derived.Deep.RegionLaw
namespace Go.Proofs.Ytkcpakmfipiglaa
open Go.RowKit

theorem fits_wrap64 (z : Int) : Fits (wrap64 z) := by unfold wrap64 Fits; omega
theorem small_right {s : List Int} (h : s.length ≤ 3) (hd : ∀ x ∈ s, 0 ≤ x ∧ x ≤ 7) : Sh.right s = true := by
  refine Sh.right_iff.2 ⟨by omega, fun x hx => ?_, ?_⟩
  · have := hd x hx; omega
  · match s, h, hd with
    | [], _, _ => decide
    | [a], _, hd => have := hd a (by simp); simp only [Sh.pr, List.foldl, Int.one_mul]; omega
    | [a, b], _, hd =>
      have h1 := hd a (by simp); have h2 := hd b (by simp)
      have := Int.mul_le_mul h1.2 h2.2 h2.1 (by omega)
      simp only [Sh.pr, List.foldl, Int.one_mul]; omega
    | [a, b, c], _, hd =>
      have h1 := hd a (by simp); have h2 := hd b (by simp); have h3 := hd c (by simp)
      have h4 := Int.mul_le_mul h1.2 h2.2 h2.1 (by omega)
      have h5 := Int.mul_nonneg h1.1 h2.1
      have := Int.mul_le_mul h4 h3.2 h3.1 (by omega)
      simp only [Sh.pr, List.foldl, Int.one_mul]; omega
    | a :: b :: c :: d :: r, h, _ => simp at h

set_option maxRecDepth 100000 in
set_option maxHeartbeats 12800000 in
theorem dcopies_walk {w : World} {A A2 : Option Addr} {m0 c n2 c2 : Nat} {l0 x0 : List Int} (h1 : Ints w A m0 l0) (hn1 : m0 ≤ 17592186044000) (hc1 : m0 ≤ c) (h2 : Ints w A2 n2 x0) :
    Calls Try.prog 5 #[.slice A m0 c, .slice A2 n2 c2] w fun e w' => e = .returned (.bool true) ∧ Below w.heap.size w w' := by
  have hT := tape_new (c := c2) h2
  have hB : Below w.heap.size w (w.alloc (.cells #[.slice A2 n2 c2, .int .i64 0] 33)) := (Below.refl _ _).alloc (Nat.le_refl _) _
  have hz := size_alloc w (.cells #[.slice A2 n2 c2, .int .i64 0] 33)
  go_enter Try.func5, Try.ntmps5
  go_upto_region 2 with fail
  generalize w.alloc (.cells #[.slice A2 n2 c2, .int .i64 0] 33) = wa at *
  have HI1 := Lib.hid (h1.below hB)
  have HL1 := Lib.hid h1.lt
  have HB := Lib.hid hB
  have HZ := Lib.hid hz
  clear hB hz h1 h2
  go_wp2_with fail
  refine (tapeShape_any hT).mono ?_; rintro e w1 ⟨⟨v, n, sh, rfl, hO, hn, hsh⟩, hT1, hG1⟩
  obtain ⟨As, cs, rfl, _, hIs, _⟩ := hO.form
  have HSL := Lib.hid hIs.len
  have HSR := Lib.hid (small_right (by rw [hIs.len]; exact hn) hsh)
  have HG1 := Lib.hid hG1
  have hs1 : wa.heap.size ≤ w1.heap.size := hG1.size
  clear hO hG1 hsh
  go_wp2_with fail
  refine (tapeTensor_any hT1 hIs (by omega)).mono ?_; rintro e w2 ⟨⟨vt, d, rfl, hOT, hdl⟩, hT2, hG2⟩
  have hG := grown_trans HG1.out hG2
  obtain ⟨At, nt, ct, Bt, md, et, rfl, hnt, hmt, _, hD⟩ := hOT.ten
  have hmd : md ≤ 4096 := by have := hD.len; have := Sh.size_bd sh; omega
  have hgt := heap_alloc_new w2 (.cells #[.slice At nt ct, .slice Bt md et] 26)
  have hxt := (Below.refl w2.heap.size w2).alloc (Nat.le_refl _) (.cells #[.slice At nt ct, .slice Bt md et] 26)
  have HI := Lib.hid ((HI1.out.grown hG (fun ad he hn hh => by have := HL1.out ad he hn; injection hh with hh; omega)).below hxt)
  have HT := Lib.hid (hOT.ten.below hxt)
  have HBz := Lib.hid (then_ (below_of_grown HB.out (by have := HZ.out; omega) hG (Nat.le_refl _)) hxt)
  have HTR := Lib.hid (show tenRight sh d = true by have := Sh.size_bd sh; simp only [tenRight, HSR.out, Bool.true_and, decide_eq_true_eq]; omega)
  clear hG hG2 hOT hT2 hdl hIs hT1 HB HG1 HI1 hxt hD hT
  go_upto_region 3 with fail
  generalize w2.alloc (.cells #[.slice At nt ct, .slice Bt md et] 26) = W at *
  have HG := Lib.hid hgt
  generalize w2.heap.size = gt at *
  clear hgt
  go_upto_if 24 with fail
  go_cut [0] (fun v wx => ∃ (m : Nat) (l : List Int), v = .slice A m c ∧ m ≤ 20 ∧ m ≤ c ∧ Ints W A m l ∧ W = wx)
  case first =>
    by_cases h20 : 20 < m0
    · have h20c : 20 ≤ c := by omega
      have hI2 := HI.out.take (k := 20) (by omega)
      go_wp2_with fail
      go_meet
      exact ⟨20, _, rfl, by omega, h20c, hI2, rfl⟩
    · go_wp2_with fail
      go_meet
      exact ⟨m0, l0, rfl, by omega, hc1, HI.out, rfl⟩
  case rest =>
    obtain ⟨m, l, rfl, hm, hmc, hIl, rfl⟩ := hcut
    have t0 := cell0_of HG.out
    have t1 := cell1_of HG.out
    have I1 := hIl
    obtain ⟨_, I2⟩ := ten_ints HT.out
    go_upto_region 5 with fail
    go_cut [7, 8] (fun p q wx => ∃ (Ba : Option Addr) (ea : Nat) (Bb : Option Addr) (eb : Nat), p = .slice Ba m ea ∧ q = .slice Bb md eb ∧ Ints wx Ba m l ∧ Ints wx Bb md d ∧ Below W.heap.size W wx)
    case first =>
      have FA := Hollow.new W 2 (Nat.le_refl W.heap.size)
      have FB0 := FA.below ((Below.refl (W.alloc (.cells #[] 2)).heap.size _).alloc (Nat.le_refl _) (.cells #[] 2))
      have FB1 := Hollow.new (base := W.heap.size) (W.alloc (.cells #[] 2)) 2 (by rw [size_alloc]; omega)
      rw [size_alloc] at FB1
      replace FB0 : Hollow ((W.alloc (.cells #[] 2)).alloc (.cells #[] 2)).drew W.heap.size 2 (.slice (some ⟨W.heap.size, 0, none⟩) 0 0) := FB0
      replace FB1 : Hollow ((W.alloc (.cells #[] 2)).alloc (.cells #[] 2)).drew W.heap.size 2 (.slice (some ⟨W.heap.size + 1, 0, none⟩) 0 0) := FB1
      have BA : Below W.heap.size W (W.alloc (.cells #[] 2)).drew := ((Below.refl _ _).alloc (Nat.le_refl _) _).drew
      have BB : Below W.heap.size W ((W.alloc (.cells #[] 2)).alloc (.cells #[] 2)).drew := (((Below.refl _ _).alloc (Nat.le_refl _) _).alloc (by simp) _).drew
      have IA1 := I1.below BA
      have IA2 := I2.below BA
      have IB1 := I1.below BB
      have IB2 := I2.below BB
      have k0 := fun o => alloc_keep o t0
      have k1 := fun o => alloc_keep o t1
      have k2 := fun o o' => alloc_keep o' (alloc_keep o t0)
      have k3 := fun o o' => alloc_keep o' (alloc_keep o t1)
      go_region_held3 (fun w' => w'.cell? ⟨gt, 0, none⟩ = some (.slice At nt ct) ∧ w'.cell? ⟨gt, 1, none⟩ = some (.slice Bt md et)) (go_keep)
        (first
          | (refine step_append_fresh rfl (.tmp 27) (.tmp 28) 23 2 rfl Try.underlying23 Try.infoI64 W.heap.size (.slice (some ⟨x6.heap.size, 0, none⟩) 0 0) (by rfl) F7 (Nat.le_trans HX6.out.size (by rw [size_alloc]; omega)) A m c l (by rfl) JX1 (by omega) ?_; intro v7 x7 hO7 hb7; (obtain ⟨Ba, ea, hva, _, _, _⟩ := hO7.form); subst hva; have HPa := Lib.hid hO7; have HPb := Lib.hid ((HOb.out.alloc (.cells #[] 2)).below hb7); have HX7 := Lib.hid ((HX6.out.alloc HX6.out.size (.cells #[] 2)).trans (hb7.mono (HX6.out.alloc HX6.out.size (.cells #[] 2)).size)); have p0 := box_keep HX7.out t0; have p1 := box_keep HX7.out t1)
          | (refine step_append_fresh rfl (.tmp 27) (.tmp 28) 23 2 rfl Try.underlying23 Try.infoI64 W.heap.size (.slice (some ⟨W.heap.size, 0, none⟩) 0 0) (by rfl) F6 HX6.out.size A m c l (by rfl) IX1 (by omega) ?_; intro v7 x7 hO7 hb7; (obtain ⟨Ba, ea, hva, _, _, _⟩ := hO7.form); subst hva; have HPa := Lib.hid hO7; have HPb := Lib.hid (HOb.out.below hb7); have HX7 := Lib.hid (HX6.out.trans (hb7.mono HX6.out.size)); have p0 := box_keep HX7.out t0; have p1 := box_keep HX7.out t1)
          | (refine step_append_fresh rfl (.tmp 27) (.tmp 28) 23 2 rfl Try.underlying23 Try.infoI64 W.heap.size (.slice (some ⟨W.heap.size + 1, 0, none⟩) 0 0) (by rfl) F6 HX6.out.size A m c l (by rfl) IX1 (by omega) ?_; intro v7 x7 hO7 hb7; (obtain ⟨Ba, ea, hva, _, _, _⟩ := hO7.form); subst hva; have HPa := Lib.hid hO7; have HPb := Lib.hid (HOb.out.below hb7); have HX7 := Lib.hid (HX6.out.trans (hb7.mono HX6.out.size)); have p0 := box_keep HX7.out t0; have p1 := box_keep HX7.out t1)
          | (refine step_append_fresh rfl (.tmp 30) (.tmp 32) 23 2 rfl Try.underlying23 Try.infoI64 W.heap.size (.slice (some ⟨x6.heap.size, 0, none⟩) 0 0) (by rfl) F7 (Nat.le_trans HX6.out.size (by rw [size_alloc]; omega)) Bt md et d (by rfl) JX2 (by omega) ?_; intro v7 x7 hO7 hb7; (obtain ⟨Bb, eb, hvb, _, _, _⟩ := hO7.form); subst hvb; have HPb := Lib.hid hO7; have HPa := Lib.hid ((HOa.out.alloc (.cells #[] 2)).below hb7); have HX7 := Lib.hid ((HX6.out.alloc HX6.out.size (.cells #[] 2)).trans (hb7.mono (HX6.out.alloc HX6.out.size (.cells #[] 2)).size)); have p0 := box_keep HX7.out t0; have p1 := box_keep HX7.out t1)
          | (refine step_append_fresh rfl (.tmp 30) (.tmp 32) 23 2 rfl Try.underlying23 Try.infoI64 W.heap.size (.slice (some ⟨W.heap.size, 0, none⟩) 0 0) (by rfl) F6 HX6.out.size Bt md et d (by rfl) IX2 (by omega) ?_; intro v7 x7 hO7 hb7; (obtain ⟨Bb, eb, hvb, _, _, _⟩ := hO7.form); subst hvb; have HPb := Lib.hid hO7; have HPa := Lib.hid (HOa.out.below hb7); have HX7 := Lib.hid (HX6.out.trans (hb7.mono HX6.out.size)); have p0 := box_keep HX7.out t0; have p1 := box_keep HX7.out t1)
          | (refine step_append_fresh rfl (.tmp 30) (.tmp 32) 23 2 rfl Try.underlying23 Try.infoI64 W.heap.size (.slice (some ⟨W.heap.size + 1, 0, none⟩) 0 0) (by rfl) F6 HX6.out.size Bt md et d (by rfl) IX2 (by omega) ?_; intro v7 x7 hO7 hb7; (obtain ⟨Bb, eb, hvb, _, _, _⟩ := hO7.form); subst hvb; have HPb := Lib.hid hO7; have HPa := Lib.hid (HOa.out.below hb7); have HX7 := Lib.hid (HX6.out.trans (hb7.mono HX6.out.size)); have p0 := box_keep HX7.out t0; have p1 := box_keep HX7.out t1)
          | (refine step_append_fresh rfl (.tmp 27) (.tmp 28) 23 2 rfl Try.underlying23 Try.infoI64 W.heap.size (.slice (some ⟨W.heap.size, 0, none⟩) 0 0) (by rfl) FA BA.size A m c l (by rfl) IA1 (by omega) ?_; intro v6 x6 hO6 hb6; (obtain ⟨Ba, ea, hva, _, _, _⟩ := hO6.form); subst hva; have HOa := Lib.hid hO6; have HX6 := Lib.hid (BA.trans (hb6.mono BA.size)); have q0 := box_keep HX6.out t0; have q1 := box_keep HX6.out t1; have qa := alloc_keep (.cells #[] 2) q0; have qb := alloc_keep (.cells #[] 2) q1; have IX1 := I1.below HX6.out; have IX2 := I2.below HX6.out; have JX1 := IX1.alloc (.cells #[] 2); have JX2 := IX2.alloc (.cells #[] 2); have F7 := Hollow.new (base := W.heap.size) x6 2 HX6.out.size)
          | (refine step_append_fresh rfl (.tmp 27) (.tmp 28) 23 2 rfl Try.underlying23 Try.infoI64 W.heap.size (.slice (some ⟨W.heap.size, 0, none⟩) 0 0) (by rfl) FB0 BB.size A m c l (by rfl) IB1 (by omega) ?_; intro v6 x6 hO6 hb6; (obtain ⟨Ba, ea, hva, _, _, _⟩ := hO6.form); subst hva; have HOa := Lib.hid hO6; have HX6 := Lib.hid (BB.trans (hb6.mono BB.size)); have q0 := box_keep HX6.out t0; have q1 := box_keep HX6.out t1; have qa := alloc_keep (.cells #[] 2) q0; have qb := alloc_keep (.cells #[] 2) q1; have IX1 := I1.below HX6.out; have IX2 := I2.below HX6.out; have JX1 := IX1.alloc (.cells #[] 2); have JX2 := IX2.alloc (.cells #[] 2); have F6 := FB1.below hb6)
          | (refine step_append_fresh rfl (.tmp 27) (.tmp 28) 23 2 rfl Try.underlying23 Try.infoI64 W.heap.size (.slice (some ⟨W.heap.size + 1, 0, none⟩) 0 0) (by rfl) FB1 BB.size A m c l (by rfl) IB1 (by omega) ?_; intro v6 x6 hO6 hb6; (obtain ⟨Ba, ea, hva, _, _, _⟩ := hO6.form); subst hva; have HOa := Lib.hid hO6; have HX6 := Lib.hid (BB.trans (hb6.mono BB.size)); have q0 := box_keep HX6.out t0; have q1 := box_keep HX6.out t1; have qa := alloc_keep (.cells #[] 2) q0; have qb := alloc_keep (.cells #[] 2) q1; have IX1 := I1.below HX6.out; have IX2 := I2.below HX6.out; have JX1 := IX1.alloc (.cells #[] 2); have JX2 := IX2.alloc (.cells #[] 2); have F6 := FB0.below hb6)
          | (refine step_append_fresh rfl (.tmp 30) (.tmp 32) 23 2 rfl Try.underlying23 Try.infoI64 W.heap.size (.slice (some ⟨W.heap.size, 0, none⟩) 0 0) (by rfl) FA BA.size Bt md et d (by rfl) IA2 (by omega) ?_; intro v6 x6 hO6 hb6; (obtain ⟨Bb, eb, hvb, _, _, _⟩ := hO6.form); subst hvb; have HOb := Lib.hid hO6; have HX6 := Lib.hid (BA.trans (hb6.mono BA.size)); have q0 := box_keep HX6.out t0; have q1 := box_keep HX6.out t1; have qa := alloc_keep (.cells #[] 2) q0; have qb := alloc_keep (.cells #[] 2) q1; have IX1 := I1.below HX6.out; have IX2 := I2.below HX6.out; have JX1 := IX1.alloc (.cells #[] 2); have JX2 := IX2.alloc (.cells #[] 2); have F7 := Hollow.new (base := W.heap.size) x6 2 HX6.out.size)
          | (refine step_append_fresh rfl (.tmp 30) (.tmp 32) 23 2 rfl Try.underlying23 Try.infoI64 W.heap.size (.slice (some ⟨W.heap.size, 0, none⟩) 0 0) (by rfl) FB0 BB.size Bt md et d (by rfl) IB2 (by omega) ?_; intro v6 x6 hO6 hb6; (obtain ⟨Bb, eb, hvb, _, _, _⟩ := hO6.form); subst hvb; have HOb := Lib.hid hO6; have HX6 := Lib.hid (BB.trans (hb6.mono BB.size)); have q0 := box_keep HX6.out t0; have q1 := box_keep HX6.out t1; have qa := alloc_keep (.cells #[] 2) q0; have qb := alloc_keep (.cells #[] 2) q1; have IX1 := I1.below HX6.out; have IX2 := I2.below HX6.out; have JX1 := IX1.alloc (.cells #[] 2); have JX2 := IX2.alloc (.cells #[] 2); have F6 := FB1.below hb6)
          | (refine step_append_fresh rfl (.tmp 30) (.tmp 32) 23 2 rfl Try.underlying23 Try.infoI64 W.heap.size (.slice (some ⟨W.heap.size + 1, 0, none⟩) 0 0) (by rfl) FB1 BB.size Bt md et d (by rfl) IB2 (by omega) ?_; intro v6 x6 hO6 hb6; (obtain ⟨Bb, eb, hvb, _, _, _⟩ := hO6.form); subst hvb; have HOb := Lib.hid hO6; have HX6 := Lib.hid (BB.trans (hb6.mono BB.size)); have q0 := box_keep HX6.out t0; have q1 := box_keep HX6.out t1; have qa := alloc_keep (.cells #[] 2) q0; have qb := alloc_keep (.cells #[] 2) q1; have IX1 := I1.below HX6.out; have IX2 := I2.below HX6.out; have JX1 := IX1.alloc (.cells #[] 2); have JX2 := IX2.alloc (.cells #[] 2); have F6 := FB0.below hb6))
      all_goals go_wp2_with fail
      all_goals go_meet
      all_goals exact ⟨_, _, _, _, rfl, rfl, HPa.out.ints_of, HPb.out.ints_of, HX7.out⟩
    case rest =>
      obtain ⟨Ba, ea, Bb, eb, rfl, rfl, hIa, hIb, hb⟩ := hcut
      have HL := Lib.hid (hIl.below hb)
      have HA := Lib.hid hIa
      have HBB := Lib.hid hIb
      replace HT := Lib.hid (HT.out.below hb)
      replace HG := Lib.hid (block_keep hb HG.out)
      replace HBz := Lib.hid (then_ HBz.out hb)
      have hll := hIl.len
      have E1 := Lib.hid (show rowT l = some ([(l.length : Int)], l) by rw [rowT, if_pos (by omega)])
      have E2 := Lib.hid (show tenT sh d = some (sh, d) by rw [tenT, if_pos HTR.out])
      have hdl := (ten_ints HT.out).2.len
      have HLL := Lib.hid hll
      have HDL := Lib.hid hdl
      clear t0 t1 I1 I2 hIl hIa hIb hb hll hdl HI
      -- u
      have C1 := dTensor_any (Datum.row (c := c) HL.out (by omega) (by omega)) (fun _ h => by simp at h)
      rw [E1.out] at C1
      go_wp2_with fail
      refine C1.mono ?_; rintro e w3 ⟨⟨vu, rfl, hvu⟩, hb3⟩
      obtain ⟨vs, vd, n3, m3, rfl, hvs, hvd⟩ := hvu
      obtain ⟨A3, c3, rfl, _, _, _⟩ := hvs.form
      obtain ⟨B3, e3, rfl, _, hD3, _⟩ := hvd.form
      obtain rfl : m3 = m := by rw [← hD3.len]; exact HLL.out
      have hx3 := (Below.refl w3.heap.size w3).alloc (Nat.le_refl _) (.cells #[.slice A3 n3 c3, .slice B3 m3 e3] 26)
      have hg3 := heap_alloc_new w3 (.cells #[.slice A3 n3 c3, .slice B3 m3 e3] 26)
      have HOU := Lib.hid (hvd.below hx3)
      have HU := Lib.hid hg3
      have HXB := Lib.hid (then_ hb3 hx3)
      clear C1 hvs hvd hD3 hb3 hx3 hg3
      go_upto_region 7 with fail
      generalize w3.alloc (.cells #[.slice A3 n3 c3, .slice B3 m3 e3] 26) = w4 at *
      generalize w3.heap.size = gu at *
      have hty : m3 ≤ 20 := hm
      -- w
      have C1 := dTensor_any (Datum.ptr (block_keep HXB.out HG.out) (HT.out.below HXB.out)) (fun _ h => by simp at h)
      rw [E2.out] at C1
      go_wp2_with fail
      refine C1.mono ?_; rintro e w5 ⟨⟨vu, rfl, hvu⟩, hb5⟩
      obtain ⟨vs, vd, n5, m5, rfl, hvs, hvd⟩ := hvu
      obtain ⟨A5, c5, rfl, _, _, _⟩ := hvs.form
      obtain ⟨B5, e5, rfl, _, hD5, _⟩ := hvd.form
      obtain rfl : m5 = md := by rw [← hD5.len]; exact HDL.out
      have hx5 := (Below.refl w5.heap.size w5).alloc (Nat.le_refl _) (.cells #[.slice A5 n5 c5, .slice B5 m5 e5] 26)
      have hg5 := heap_alloc_new w5 (.cells #[.slice A5 n5 c5, .slice B5 m5 e5] 26)
      have hb6 := then_ hb5 hx5
      have HOW := Lib.hid (hvd.below hx5)
      have HWb := Lib.hid hg5
      have HLT := Lib.hid (HOU.out.ints_of.lt)
      have hOU6 := HOU.out.below hb6
      have hU6 := block_keep hb6 HU.out
      have hXB6 := then_ HXB.out hb6
      have hbl := HXB.out.size
      have hb56 := hb6.size
      clear C1 hvs hvd hD5 hb5 hx5 hg5 hb6
      go_upto_region 8 with fail
      generalize w5.alloc (.cells #[.slice A5 n5 c5, .slice B5 m5 e5] 26) = w6 at *
      generalize w5.heap.size = gw at *
      have hc8 := cell1_of hU6
      go_wp2_with fail
      clear hc8
      have HOU6 := Lib.hid hOU6
      have HU6 := Lib.hid hU6
      have HXB6 := Lib.hid hXB6
      clear hOU6 hU6 hXB6
      go_loopw [48] (fun kv wr => ∃ (j : Nat) (du : List Int), kv = .int .i64 j ∧ j ≤ m3 ∧ OwnS wr wc.heap.size 2 (.slice B3 m3 e3) m3 du ∧ wr.heap[gu]? = some (.cells #[.slice A3 n3 c3, .slice B3 m3 e3] 26 (0, 0)) ∧ wr.heap[gw]? = some (.cells #[.slice A5 n5 c5, .slice B5 m5 e5] 26 (0, 0)) ∧ OwnS wr w4.heap.size 2 (.slice B5 m5 e5) m5 d ∧ Below wc.heap.size wc wr) (fun kv _ => m3 - (intOf kv).toNat)
      case atStart => exact ⟨0, _, rfl, by omega, HOU6.out, HU6.out, HWb.out, HOW.out, HXB6.out⟩
      case round =>
        clear HOU6 HU6 HWb HOW HXB6
        obtain ⟨j, du, rfl, hj, hO, hu, hw, hP, hB⟩ := hrel
        have hc1' := cell1_of hu
        by_cases hlt : j < m3
        · obtain ⟨g, cap, hv, hOw⟩ := hO.own (by omega)
          injection hv with hv1 _ hv3
          subst hv1
          subst hv3
          have hgb := hOw.base_
          obtain ⟨hgb, hgb1⟩ := hgb
          obtain ⟨y, hy⟩ : ∃ y, du[j]? = some y := ⟨_, List.getElem?_eq_getElem (by rw [hOw.len]; exact hlt)⟩
          have hcs := hOw.cell hy
          have hfs := hOw.frozen j
          have hfy := hOw.2.1 y (List.mem_of_getElem? hy)
          obtain ⟨hfy1, hfy2⟩ := hfy
          have hg4 : g < w4.heap.size := HLT.out _ rfl (by omega)
          obtain ⟨csb, hbk⟩ := hOw.blk
          have hgr := grown_setCell wr g j (.int .i64 (wrap64 (y + 1)))
          have hnu := ne_blk hOw hu (by decide)
          have hnw := ne_blk hOw hw (by decide)
          have HO4 := Lib.hid (hOw.store j (u := wrap64 (y + 1)) (fits_wrap64 _))
          have HU4 := Lib.hid ((hgr.block gu (block_lt_of_cell hc1') (by simp; omega)).trans hu)
          have HW4 := Lib.hid ((hgr.block gw (block_lt_of_cell (cell1_of hw)) (by simp; omega)).trans hw)
          have HP4 := Lib.hid (hP.grown hgr hg4)
          have HB4 := Lib.hid (hB.setCell (p := ⟨g, j, none⟩) hgb (.int .i64 (wrap64 (y + 1))))
          clear hO hu hw hP hB hbk hgr hOw hy
          go_wp2
          go_roundw
          case rel => exact ⟨j + 1, _, by go_num, by omega, HO4.out, HU4.out, HW4.out, HP4.out, HB4.out⟩
          case measure => simp [intOf]; omega
        · have hc2' := cell1_of hw
          have HU6 := Lib.hid hu
          have HW6 := Lib.hid hw
          have HP6 := Lib.hid hP
          have HB6 := Lib.hid hB
          clear hO hu hw hP hB
          obtain ⟨w7, rfl⟩ : ∃ w7 : World, w7 = wr := ⟨_, rfl⟩
          go_wp2_with fail
          clear hc1' hc2'
          go_loopw [62] (fun kv wr => ∃ (j : Nat) (dw : List Int), kv = .int .i64 j ∧ j ≤ m5 ∧ wr.heap[gu]? = some (.cells #[.slice A3 n3 c3, .slice B3 m3 e3] 26 (0, 0)) ∧ wr.heap[gw]? = some (.cells #[.slice A5 n5 c5, .slice B5 m5 e5] 26 (0, 0)) ∧ OwnS wr w4.heap.size 2 (.slice B5 m5 e5) m5 dw ∧ Below wc.heap.size wc wr) (fun kv _ => m5 - (intOf kv).toNat)
          case atStart => exact ⟨0, _, rfl, by omega, HU6.out, HW6.out, HP6.out, HB6.out⟩
          case round =>
            clear HU6 HW6 HP6 HB6
            obtain ⟨k, dw, rfl, hk, hu, hw, hP, hB⟩ := hrel
            have hc1' := cell1_of hw
            by_cases hltk : k < m5
            · obtain ⟨g, cap, hv, hOw⟩ := hP.own (by omega)
              injection hv with hv1 _ hv3
              subst hv1
              subst hv3
              obtain ⟨hgb, hgb1⟩ := hOw.base_
              obtain ⟨y, hy⟩ : ∃ y, dw[k]? = some y := ⟨_, List.getElem?_eq_getElem (by rw [hOw.len]; exact hltk)⟩
              have hcs := hOw.cell hy
              have hfs := hOw.frozen k
              obtain ⟨hfy1, hfy2⟩ := hOw.2.1 y (List.mem_of_getElem? hy)
              have hgr := grown_setCell wr g k (.int .i64 (wrap64 (y + 1)))
              have hnu := ne_blk hOw hu (by decide)
              have hnw := ne_blk hOw hw (by decide)
              have HO4 := Lib.hid (hOw.store k (u := wrap64 (y + 1)) (fits_wrap64 _))
              have HU4 := Lib.hid ((hgr.block gu (block_lt_of_cell (cell1_of hu)) (by simp; omega)).trans hu)
              have HW4 := Lib.hid ((hgr.block gw (block_lt_of_cell hc1') (by simp; omega)).trans hw)
              have HB4 := Lib.hid (hB.setCell (p := ⟨g, k, none⟩) (Nat.le_trans hbl hgb) (.int .i64 (wrap64 (y + 1))))
              clear hu hw hP hB hgr hOw hy
              go_wp2
              go_roundw
              case rel => exact ⟨k + 1, _, by go_num, by omega, HU4.out, HW4.out, HO4.out, HB4.out⟩
              case measure => simp [intOf]; omega
            · have c1 := cell1_of hu
              have HBr := Lib.hid hB
              have HTr := Lib.hid (HT.out.below hB)
              have hG := block_keep hB HG.out
              have t1 := cell1_of hG
              have HLr := Lib.hid (HL.out.below hB)
              have HAr := Lib.hid (HA.out.below hB)
              have HBBr := Lib.hid (HBB.out.below hB)
              have e1 : ((m3 : Int) == (m3 : Int)) = true := by simp
              have e2 : ((m5 : Int) == (m5 : Int)) = true := by simp
              have hT : datHas (some (([(l.length : Int)] : List Int), l)) = true := rfl
              have hT2 : datHas (some (sh, d)) = true := rfl
              clear hu hw hP hB hG
              go_wp2_with fail
              refine (bookSame64_eq HLr.out HAr.out).mono ?_; rintro e w8 ⟨rfl, q8, rfl⟩
              have t1' : (wr.drewN q8).cell? ⟨gt, 1, none⟩ = some (.slice Bt m5 et) := t1
              go_wp2_with fail
              refine (bookSame64_eq ((ten_ints HTr.out).2.drewN q8) (HBBr.out.drewN q8)).mono ?_; rintro e w9 ⟨rfl, q9, rfl⟩
              have HBy := Lib.hid (then_drew HBr.out (q8 + q9))
              go_wp2_with fail
              refine (l3known_any _).mono ?_; rintro e w10 ⟨rfl, hb10⟩
              have HBx := Lib.hid (then_ (then_ HBz.out HBy.out) hb10)
              clear hb10
              go_wp2
              go_ret
              exact ⟨rfl, HBx.out⟩
end Go.Proofs.Ytkcpakmfipiglaa
