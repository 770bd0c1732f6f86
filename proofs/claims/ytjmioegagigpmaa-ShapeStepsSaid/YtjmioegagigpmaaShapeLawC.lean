/- ShapeSteps: the walk. -/
import Derived.Test.YtjmioegagigpmaaShapeLawB
import Derived.Test.YtjmioegagigpmaaKitApp
namespace Go.Proofs.Ytjmioegagigpmaa
open Go.RowKit

/-- at % (n + 1), brought into 0 .. n. -/
def cutAt (at_ : Int) (n : Nat) : Int := (at_.tmod ((n : Int) + 1) + n + 1) % ((n : Int) + 1)

set_option maxRecDepth 100000 in
set_option maxHeartbeats 1600000 in
theorem steps_walk {w : World} {A0 : Option Addr} {n0 c0 : Nat} {x0 : List Int} (at_ : Int) (h0 : Ints w A0 n0 x0) (hf : Fits at_) :
    Calls Try.prog 6 #[.slice A0 n0 c0, .int .i64 at_] w fun e w' => e = .returned (.bool true) ∧ Below w.heap.size w w' := by
  have hT := tape_new (c := c0) h0
  have hB : Below w.heap.size w (w.alloc (.cells #[.slice A0 n0 c0, .int .i64 0] 29)) := (Below.refl _ _).alloc (Nat.le_refl _) _
  have hz : (w.alloc (.cells #[.slice A0 n0 c0, .int .i64 0] 29)).heap.size = w.heap.size + 1 := by simp
  obtain ⟨hf1, hf2⟩ := hf
  go_enter Try.func6, Try.ntmps6
  go_wp2_with fail
  generalize w.alloc (.cells #[.slice A0 n0 c0, .int .i64 0] 29) = wa at *
  refine (tapeShape_any hT).mono ?_; rintro e w1 ⟨⟨v, n, xs, rfl, hO, hn3, hx⟩, hT1, hG1⟩
  obtain ⟨A, c, rfl, hc, hI, hA⟩ := hO.form
  have HR := Lib.hid (right_tape hO.len hn3 hx)
  have HLen := Lib.hid hO.len
  have HB1 := Lib.hid (below_of_grown hB (by omega) hG1 (Nat.le_refl _))
  clear hB hT hG1 hO hx hA hz hT1
  go_wp2_with fail
  refine (size_any hI).mono ?_; rintro e w' ⟨rfl, rfl⟩
  obtain ⟨hs0, hs1⟩ := Sh.size_bd xs
  obtain ⟨N, hN⟩ := Int.eq_ofNat_of_zero_le hs0
  have HN := Lib.hid hN
  rw [hN] at hs1 ⊢
  clear hN hs0
  go_wp2_with fail
  refine (strides_any hI).mono ?_; rw [if_pos HR.out]; rintro e w2 ⟨⟨S, m', d', rfl, hd', hK⟩, hb2⟩
  obtain rfl : m' = n := by rw [← hK.len, Sh.strides_length, HLen.out]
  have hI2 := hI.below hb2
  have HB2 := Lib.hid (then_ HB1.out hb2)
  clear hb2 hI
  have ht1 : -((m' : Int) + 1) < at_.tmod ((m' : Int) + 1) := by
    have e := Int.tmod_eq_emod (a := at_) (b := (m' : Int) + 1)
    have e1 := Int.emod_nonneg at_ (b := (m' : Int) + 1) (by omega)
    have e2 := Int.emod_lt_of_pos at_ (b := (m' : Int) + 1) (by omega)
    by_cases hd : 0 ≤ at_ ∨ ((m' : Int) + 1) ∣ at_
    · rw [if_pos hd] at e; omega
    · rw [if_neg hd] at e; omega
  have ht2 : at_.tmod ((m' : Int) + 1) < (m' : Int) + 1 := by
    have e := Int.tmod_eq_emod (a := at_) (b := (m' : Int) + 1)
    have e1 := Int.emod_nonneg at_ (b := (m' : Int) + 1) (by omega)
    have e2 := Int.emod_lt_of_pos at_ (b := (m' : Int) + 1) (by omega)
    by_cases hd : 0 ≤ at_ ∨ ((m' : Int) + 1) ∣ at_
    · rw [if_pos hd] at e; omega
    · rw [if_neg hd] at e; omega
  go_wp2_with fail
  have hk0 := Int.emod_nonneg (at_.tmod ((m' : Int) + 1) + m' + 1) (b := (m' : Int) + 1) (by omega)
  have hk1 := Int.emod_lt_of_pos (at_.tmod ((m' : Int) + 1) + m' + 1) (b := (m' : Int) + 1) (by omega)
  obtain ⟨k, hk⟩ := Int.eq_ofNat_of_zero_le hk0
  rw [hk] at hk1 ⊢
  have hkm : k ≤ m' := by omega
  clear hk0 hk1 hk ht1 ht2
  have hsl := hI2.drop hkm hc
  obtain ⟨D, hD⟩ : ∃ D, (if c = k then A else A.map (·.add k)) = D := ⟨_, rfl⟩
  rw [hD] at hsl
  have hst := hI2.take hkm
  have hkc : k ≤ c := by omega
  have HN3 := Lib.hid hn3
  go_cut [10] (fun v wx => ∃ (A' : Option Addr) (c' : Nat), v = .slice A' (m' + 1) c' ∧ Ints wx A' (m' + 1) (xs.take k ++ [1] ++ xs.drop k) ∧ Below w2.heap.size w2 wx)
  case first =>
    have F1 := (own_empty w2 3 (Nat.le_refl _)).drew
    have F2 := ((own_empty w2 3 (Nat.le_refl _)).alloc (.cells #[.int .i64 1] 3)).drew
    have F3 : OwnS ((w2.alloc (.cells #[.int .i64 1] 3)).alloc (.cells #[] 3)).drew w2.heap.size 3 (.slice (some ⟨w2.heap.size + 1, 0, none⟩) 0 0) 0 [] := by
      have := (own_empty (base := w2.heap.size) (w2.alloc (.cells #[.int .i64 1] 3)) 3 (by simp)).drew
      simpa using this
    have L2 : Ints ((w2.alloc (.cells #[] 3)).alloc (.cells #[.int .i64 1] 3)).drew (some ⟨w2.heap.size + 1, 0, none⟩) 1 [1] := ints_lit _ _ _ _ _ _ (by simp) (by rfl) (by decide)
    have L3 : Ints ((w2.alloc (.cells #[.int .i64 1] 3)).alloc (.cells #[] 3)).drew (some ⟨w2.heap.size, 0, none⟩) 1 [1] := (ints_lit w2 _ _ _ _ [1] rfl (by rfl) (by decide)).alloc _
    have T1 : Ints (w2.alloc (.cells #[] 3)).drew A k (xs.take k) := hst.alloc _
    have T2 : Ints ((w2.alloc (.cells #[] 3)).alloc (.cells #[.int .i64 1] 3)).drew A k (xs.take k) := (hst.alloc _).alloc _
    have T3 : Ints ((w2.alloc (.cells #[.int .i64 1] 3)).alloc (.cells #[] 3)).drew A k (xs.take k) := (hst.alloc _).alloc _
    have B1 : Below w2.heap.size w2 (w2.alloc (.cells #[] 3)).drew := ((Below.refl _ _).alloc (Nat.le_refl _) _).drew
    have B2 : Below w2.heap.size w2 ((w2.alloc (.cells #[] 3)).alloc (.cells #[.int .i64 1] 3)).drew := (((Below.refl _ _).alloc (Nat.le_refl _) _).alloc (by simp) _).drew
    have B3 : Below w2.heap.size w2 ((w2.alloc (.cells #[.int .i64 1] 3)).alloc (.cells #[] 3)).drew := (((Below.refl _ _).alloc (Nat.le_refl _) _).alloc (by simp) _).drew
    go_region_law (first
      | (refine step_append_ints rfl (.tmp 38) (.tmp 41) 22 3 rfl Try.underlying22 Try.infoI w2.heap.size (.slice (some ⟨w2.heap.size, 0, none⟩) 0 0) 0 [] rfl F1 B1.size A k c (xs.take k) rfl T1 ?_ ?_; (focus omega); intro v1 x1 hO1 hg1 hat1; have hx0 := B1.grown hg1 B1.size F1.block; have hx1 := hx0.alloc hx0.size (.cells #[.int .i64 1] 3); have hO1a := hO1.alloc (.cells #[.int .i64 1] 3); have hL : Ints (x1.alloc (.cells #[.int .i64 1] 3)) (some ⟨x1.heap.size, 0, none⟩) 1 [1] := ints_lit _ _ _ _ _ _ rfl rfl (by decide))
      | (refine step_append_ints rfl (.tmp 38) (.tmp 41) 22 3 rfl Try.underlying22 Try.infoI w2.heap.size (.slice (some ⟨w2.heap.size, 0, none⟩) 0 0) 0 [] rfl F2 B2.size A k c (xs.take k) rfl T2 ?_ ?_; (focus omega); intro v1 x1 hO1 hg1 hat1; have hx1 := B2.grown hg1 B2.size F2.block; have hL := L2.grown hg1 (by intro ad e _; injection e with e; subst e; simp [Value.ownBlock]))
      | (refine step_append_ints rfl (.tmp 38) (.tmp 41) 22 3 rfl Try.underlying22 Try.infoI w2.heap.size (.slice (some ⟨w2.heap.size + 1, 0, none⟩) 0 0) 0 [] rfl F3 B3.size A k c (xs.take k) rfl T3 ?_ ?_; (focus omega); intro v1 x1 hO1 hg1 hat1; have hx1 := B3.grown hg1 B3.size F3.block; have hL := L3.grown hg1 (by intro ad e _; injection e with e; subst e; simp [Value.ownBlock]))
      | (refine step_append_ints rfl (.tmp 42) (.tmp 43) 22 3 rfl Try.underlying22 Try.infoI w2.heap.size v1 (0 + k) _ rfl hO1 hx1.size _ 1 1 [1] rfl hL ?_ ?_; (focus omega); intro v2 x2 hO2 hg2 hat2; have hx2 := hx1.grown hg2 hx1.size hO1.block)
      | (refine step_append_ints rfl (.tmp 42) (.tmp 43) 22 3 rfl Try.underlying22 Try.infoI w2.heap.size v1 (0 + k) _ rfl hO1a hx1.size _ 1 1 [1] rfl hL ?_ ?_; (focus omega); intro v2 x2 hO2 hg2 hat2; have hx2 := hx1.grown hg2 hx1.size hO1a.block)
      | (refine step_append_ints rfl (.tmp 44) (.tmp 47) 22 3 rfl Try.underlying22 Try.infoI w2.heap.size v2 (0 + k + 1) _ rfl hO2 hx2.size _ (m' - k) _ (xs.drop k) rfl (hsl.below hx2) ?_ ?_; (focus omega); intro v3 x3 hO3 hg3 hat3; have hx3 := hx2.grown hg3 hx2.size hO2.block))
    all_goals
      obtain ⟨A', c', hv, hc', hI', _⟩ := hO3.form
      subst hv
      have e1 : 0 + k + 1 + (m' - k) = m' + 1 := by omega
      rw [e1] at hI'
      have HI := Lib.hid hI'
      clear hI' e1 hat1 hat2 hat3
      go_wp2_with fail
      go_meet
      exact ⟨A', c', by rw [show 0 + k + 1 + (m' - k) = m' + 1 from by omega], by simpa using HI.out, hx3⟩
  case rest =>
    obtain ⟨A', c', rfl, hJ, hb3⟩ := hcut
    have HS := Lib.hid (Sh.size_insert HR.out (by have := HLen.out; omega) k)
    have hI3 := hI2.below hb3
    have hK3 := hK.below hb3
    have HB3 := Lib.hid (then_ HB2.out hb3)
    clear hb3 hI2 hK hsl hst hD
    go_wp2_with fail
    refine (size_any hJ).mono ?_; rw [HS.out, HN.out]; rintro e w' ⟨rfl, rfl⟩
    clear hJ
    go_wp2_with fail
    go_loopw [11] (fun iv wr => ∃ j : Nat, iv = .int .i64 j ∧ j ≤ N ∧ Ints wr A m' xs ∧ Ints wr S m' (Sh.strides xs) ∧ Below w.heap.size w wr) (fun iv _ => N - (intOf iv).toNat)
    case atStart => exact ⟨0, rfl, by omega, hI3, hK3, HB3.out⟩
    case round =>
      clear hI3 hK3 HB3 hkm hkc HS
      obtain ⟨j, rfl, hj, hI, hK, hB⟩ := hrel
      have HB := Lib.hid hB
      clear hB
      by_cases hlt : j < N
      · have hj0 : (0 : Int) ≤ (j : Int) := by omega
        have hj1 : (j : Int) < Sh.size xs := by rw [HN.out]; omega
        have HJ := Lib.hid hj1
        have HP := Lib.hid (Sh.placeOf_place (s := xs) (i := j) (by omega) hj1)
        have hdd := (Sh.size_pos (s := xs) (i := j) (by omega) hj1).2
        have HD := Lib.hid hdd
        clear hj1 hdd
        go_wp2_with fail
        refine (place_any (j : Int) hI ⟨by omega, by omega⟩).mono ?_; rw [HP.out]; rintro e w3 ⟨⟨P, m, d, rfl, hd, hQ⟩, hb3⟩
        obtain rfl : m = m' := by rw [← hQ.len, Sh.place_length, HLen.out]
        have hI3 := hI.below hb3
        have hK3 := hK.below hb3
        have HB3 := Lib.hid (then_ HB.out hb3)
        clear hb3 hI hK
        go_wp2_with fail
        go_loopw [70] (fun kv wr => ∃ a : Nat, kv = .int .i64 a ∧ a ≤ m ∧ Ints wr A m xs ∧ Ints wr S m (Sh.strides xs) ∧ Ints wr P m (Sh.place xs j) ∧ Below w.heap.size w wr) (fun kv _ => m - (intOf kv).toNat)
        case atStart => exact ⟨0, rfl, by omega, hI3, hK3, hQ, HB3.out⟩
        case round =>
          clear hI3 hK3 hQ HB3
          obtain ⟨a, rfl, ha, hI, hK, hQ, hB⟩ := hrel
          by_cases hal : a < m
          · obtain ⟨ad, x, rfl, hb, hx, hcx, hf⟩ := hI.at_ hal
            obtain ⟨sd, st, rfl, hb', hst, hcs, hf'⟩ := hK.at_ hal
            obtain ⟨pd', p0, rfl, hb'', hp0, hcp, hf''⟩ := hQ.at_ hal
            have hx32 := HD.out x (List.mem_of_getElem? hx)
            have hst1 : 0 ≤ st ∧ st ≤ 1048576 := by
              have h1 := Sh.strides_at hx
              rw [hst] at h1
              injection h1 with h1
              rw [h1]
              exact Sh.pd_small (Sh.right_iff.1 HR.out).2.1 (by have := HLen.out; omega) (a + 1)
            have hp1 : 0 ≤ p0 ∧ p0 < x := Sh.within_at (Sh.within_place HD.out j) hx hp0
            obtain ⟨hx1, hx2⟩ := hx32
            obtain ⟨hs1', hs2'⟩ := hst1
            obtain ⟨hp1, hp2⟩ := hp1
            have E1 := hQ.alloc (.cells #[] 3)
            have E2 := own_empty wr 3 (Nat.le_refl _)
            have HX := Lib.hid hx
            have HS := Lib.hid hst
            have HP0 := Lib.hid hp0
            have HE := Lib.hid hB
            clear hx hst hp0 hB hcx hcs hcp
            go_wp2_with (at_builtin; refine wpList_append_ints rfl (.tmp 78) (.tmp 79) 22 3 rfl Try.underlying22 Try.infoI wr.heap.size (.slice (some ⟨wr.heap.size, 0, none⟩) 0 0) 0 [] rfl E2 ?c1 (some pd') m d (Sh.place xs j) rfl E1 ?c2 ?_)
            case c1 => simp
            case c2 => omega
            intro v2 x2 hO2 hg2 hat2
            clear hat2
            have hx2 : Below wr.heap.size wr x2 := ((Below.refl _ _).alloc (Nat.le_refl _) _).grown hg2 (by simp) E2.block
            clear hg2 E1 E2
            obtain ⟨g2, c2, rfl, hO⟩ := hO2.own (by omega)
            have hgb := hO.base_.1
            have hcq := hO.cell HP0.out
            have hfz := hO.frozen a
            have hcap := hO.cap
            have hO3 := hO.store a (u := p0 + 1) ⟨by omega, by omega⟩
            have hx3 := hx2.setCell (p := ⟨g2, a, none⟩) hgb (.int .i64 (p0 + 1))
            have hI3 := hI.below hx3
            have hK3 := hK.below hx3
            have hQ3 := hQ.below hx3
            have HB3 := Lib.hid (then_ HE.out hx3)
            have hcq3 : (x2.setCell ⟨g2, a, none⟩ (.int .i64 (p0 + 1))).cell? ⟨g2, a, none⟩ = some (.int .i64 (p0 + 1)) := hO3.cell (by
              rw [List.getElem?_set]
              have hk : a < (Sh.place xs j).length := (List.getElem?_eq_some_iff.1 HP0.out).1
              simp [hk])
            have hcx3 := hI3.get HX.out
            have hcs3 := hK3.get HS.out
            clear hO2 hO hx2 hx3 hI hK hQ
            by_cases hge : x ≤ p0 + 1
            · have HIX := Lib.hid (Sh.index_past HX.out HP0.out hge)
              have hd1 : decide (x ≤ p0 + 1) = true := by simpa using hge
              go_wp2
              go_quiet (fail)
              go_wp2_with fail
              refine (index_any (hI3.drewN _) (hO3.ints.drewN _)).mono ?_; rw [HIX.out]; rintro e w' ⟨rfl, rfl⟩
              have HB4 := Lib.hid (then_drew HB3.out nq)
              go_wp2
              go_roundw
              case rel => exact ⟨a + 1, by go_num, by omega, hI3.drewN _, hK3.drewN _, hQ3.drewN _, HB4.out⟩
              case measure => simp [intOf]; omega
            · have HIX := Lib.hid (Sh.index_step (i := j) (by omega) HJ.out HX.out HP0.out HS.out (by omega))
              have hd1 : decide (x ≤ p0 + 1) = false := by simpa using hge
              go_wp2
              go_quiet (fail)
              go_wp2_with fail
              refine (index_any (hI3.drewN _) (hO3.ints.drewN _)).mono ?_; rw [HIX.out]; rintro e w' ⟨rfl, rfl⟩
              have HB4 := Lib.hid (then_drew HB3.out nq)
              go_wp2
              go_roundw
              case rel => exact ⟨a + 1, by go_num, by omega, hI3.drewN _, hK3.drewN _, hQ3.drewN _, HB4.out⟩
              case measure => simp [intOf]; omega
          · have HBB := Lib.hid hB
            clear hB
            go_wp2
            go_roundw
            case rel => exact ⟨j + 1, by go_num, by omega, hI, hK, HBB.out⟩
            case measure => simp [intOf]; omega
      · go_wp2_with fail
        refine (known_any _).mono ?_; rintro e w7 ⟨rfl, hb7⟩
        have HB7 := Lib.hid (then_ HB.out hb7)
        clear hb7
        go_wp2
        go_ret
        exact ⟨rfl, HB7.out⟩
end Go.Proofs.Ytjmioegagigpmaa
