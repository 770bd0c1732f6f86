/- Contracts of Place, the program's and the reference's. -/
import Derived.Test.YtjmioegagigpmaaShapeD
namespace Go.Proofs.Ytjmioegagigpmaa
open Go.RowKit

set_option maxHeartbeats 800000 in
theorem place_any {w : World} {A : Option Addr} {n c : Nat} {xs : List Int} (i : Int) (h : Ints w A n xs) (hif : Fits i) :
    Calls Try.prog 13 #[.slice A n c, .int .i64 i] w fun e w' => Makes w (Sh.placeOf xs i) e w' := by
  have hn := h.len
  have hle := h.le
  have hsb := Sh.size_bd xs
  obtain ⟨hsb1, hsb2⟩ := hsb
  obtain ⟨hi1, hi2⟩ := hif
  by_cases hok : 0 ≤ i ∧ i < Sh.size xs
  · obtain ⟨hr, hd⟩ := Sh.size_pos hok.1 hok.2
    have HP := Lib.hid (p := Sh.placeOf xs i = Sh.place xs i) (by rw [Sh.placeOf, if_pos hok])
    obtain ⟨hi0, his⟩ := hok
    have hl4 := (Sh.right_iff.1 hr).1
    have hn4 : n ≤ 4 := by omega
    have HD : Hid (∀ x ∈ xs, 0 ≤ x ∧ x ≤ 32) := Lib.hid fun x hx => ⟨by have := hd x hx; omega, (hd x hx).2⟩
    have H1 := Lib.hid hn; clear hn
    have HR := Lib.hid hr; clear hr
    have HE := Lib.hid hd; clear hd
    obtain ⟨i0, hi, hz0, hz1, hz2⟩ := info_parts Try.infoInt
    rw [HP.out]
    go_enter Try.func13, Try.ntmps13
    go_wp2_with (first | (go_at_call 12; refine (size_any h).mono ?_; rintro e w' ⟨rfl, rfl⟩) | (at_make; refine wpList_make_full _ rfl _ _ _ rfl _ _ i0 (.int .i64 0) 1 Try.underlying22 hi hz0 hz1 .i64 .i64 _ _ n rfl rfl rfl rfl ?c1 ?c2 (Nat.le_refl _) ?_))
    case c1 => rw [hz2]; omega
    case c2 => unfold maxLen; omega
    intro w1 hown hgr
    have hO := own_make (by omega) hown
    have hB : Below w.heap.size w w1 := (Below.refl _ _).grown hgr (Nat.le_refl _) (by simp)
    have hsz := hgr.size
    clear hown hgr
    go_wp2
    go_loopw [1, 6] (fun p a wr => ∃ (m : Nat) (k : Int), k + 1 = m ∧ m ≤ n ∧ a = .int .i64 k ∧ p = .int .i64 (i / Sh.pd (xs.drop m)) ∧ ∃ ys, Own wr w.heap.size 3 w.heap.size n n ys ∧ From m ys (Sh.place xs i) ∧ Below w.heap.size w wr) (fun _ a _ => (intOf a + 1).toNat)
    case atStart =>
      refine ⟨n, _, by omega, by omega, rfl, ?_, _, hO, ⟨?_, ?_⟩, hB⟩
      · rw [List.drop_eq_nil_of_le (by have := H1.out; omega)]; simp [Sh.pd]
      · simp [Sh.place_length, H1.out]
      · intro j hj
        rw [List.getElem?_eq_none (by simp; omega), List.getElem?_eq_none (by rw [Sh.place_length, H1.out]; omega)]
    case round =>
      clear hO hB hsz
      obtain ⟨m, k, hkm, hk2, rfl, rfl, ys, hO, hF, hB⟩ := hrel
      by_cases hk0 : 0 ≤ k
      · obtain ⟨m, rfl⟩ := Int.eq_ofNat_of_zero_le hk0
        rename_i m0
        obtain rfl : m0 = m + 1 := by omega
        have hmn : m < n := by omega
        have h' := h.below hB
        obtain ⟨ad, x, rfl, hb, hx, hc, hf⟩ := h'.at_ hmn
        obtain ⟨hx1, hx2⟩ := HE.out x (List.mem_of_getElem? hx)
        have hc2 : wr.cell? ⟨w.heap.size, m, none⟩ = some (.int .i64 (ys.getD m 0)) := hO.cell (by have := hO.len; simp [List.getElem?_eq_getElem (by omega : m < ys.length)])
        have hfz := hO.frozen m
        have hq := Sh.pd_small HD.out hl4 (m + 1)
        have hd0 : 0 ≤ i / Sh.pd (xs.drop (m + 1)) := Int.ediv_nonneg hi0 hq.1
        have hd1 : i / Sh.pd (xs.drop (m + 1)) ≤ 9223372036854775807 := Int.le_trans (Int.ediv_le_self _ hi0) hi2
        have hm0 : 0 ≤ i / Sh.pd (xs.drop (m + 1)) % x := Int.emod_nonneg _ (by omega)
        have hm1 : i / Sh.pd (xs.drop (m + 1)) % x < x := Int.emod_lt_of_pos _ (by omega)
        have HS := Lib.hid (Sh.left_step (i := i) hx HD.out)
        have hO2 := hO.store m (u := i / Sh.pd (xs.drop (m + 1)) % x) ⟨by omega, by omega⟩
        have hF2 := hF.set_ (Sh.place_at (i := i) hx)
        have hB2 := hB.setCell (p := ⟨w.heap.size, m, none⟩) (Nat.le_refl _) (.int .i64 (i / Sh.pd (xs.drop (m + 1)) % x))
        have hc3 : (wr.setCell ⟨w.heap.size, m, none⟩ (.int .i64 (i / Sh.pd (xs.drop (m + 1)) % x))).cell? (ad.add m) = some (.int .i64 x) := (h.below hB2).get hx
        have HX := Lib.hid hx
        clear hx hkm hk0 hO hF hB h' hq
        go_wp2
        go_roundw
        case rel => exact ⟨m, _, by omega, by omega, rfl, by rw [HS.out], _, hO2, hF2, hB2⟩
        case measure => simp [intOf]
      · obtain rfl : m = 0 := by omega
        obtain rfl : k = -1 := by omega
        have HF := Lib.hid hF; clear hF
        go_wp2
        go_ret
        rw [← HF.out.zero]
        exact Makes.own hO hB
  · have HP := Lib.hid (p := Sh.placeOf xs i = []) (by rw [Sh.placeOf, if_neg hok])
    rw [HP.out]
    have H1 := Lib.hid hn; clear hn
    by_cases hi0 : i < 0
    · go_enter Try.func13, Try.ntmps13
      go_wp2_with (go_at_call 12; refine (size_any h).mono ?_; rintro e w' ⟨rfl, rfl⟩)
      go_ret
      exact Makes.none_ w
    · have hi3 : Sh.size xs ≤ i := by omega
      clear hok
      go_enter Try.func13, Try.ntmps13
      go_wp2_with (go_at_call 12; refine (size_any h).mono ?_; rintro e w' ⟨rfl, rfl⟩)
      go_ret
      exact Makes.none_ w

set_option maxHeartbeats 800000 in
theorem refPlace_any {w : World} {A : Option Addr} {n c : Nat} {xs : List Int} (i : Int) (h : Ints w A n xs) (hif : Fits i) :
    Calls Try.prog 8 #[.slice A n c, .int .i64 i] w fun e w' => Makes w (Sh.placeOf xs i) e w' := by
  have hn := h.len
  have hle := h.le
  have hsb := Sh.size_bd xs
  obtain ⟨hsb1, hsb2⟩ := hsb
  obtain ⟨hi1, hi2⟩ := hif
  by_cases hok : 0 ≤ i ∧ i < Sh.size xs
  · obtain ⟨hr, hd⟩ := Sh.size_pos hok.1 hok.2
    have HP := Lib.hid (p := Sh.placeOf xs i = Sh.place xs i) (by rw [Sh.placeOf, if_pos hok])
    obtain ⟨hi0, his⟩ := hok
    have hl4 := (Sh.right_iff.1 hr).1
    have hn4 : n ≤ 4 := by omega
    have HD : Hid (∀ x ∈ xs, 0 ≤ x ∧ x ≤ 32) := Lib.hid fun x hx => ⟨by have := hd x hx; omega, (hd x hx).2⟩
    have H1 := Lib.hid hn; clear hn
    have HR := Lib.hid hr; clear hr
    have HE := Lib.hid hd; clear hd
    obtain ⟨i0, hi, hz0, hz1, hz2⟩ := info_parts Try.infoInt
    rw [HP.out]
    go_enter Try.func8, Try.ntmps8
    go_wp2_with (first | (go_at_call 18; refine (refSize_any h).mono ?_; rintro e w' ⟨rfl, rfl⟩) | (at_make; refine wpList_make_full _ rfl _ _ _ rfl _ _ i0 (.int .i64 0) 1 Try.underlying22 hi hz0 hz1 .i64 .i64 _ _ n rfl rfl rfl rfl ?c1 ?c2 (Nat.le_refl _) ?_))
    case c1 => rw [hz2]; omega
    case c2 => unfold maxLen; omega
    intro w1 hown hgr
    have hO := own_make (by omega) hown
    have hB : Below w.heap.size w w1 := (Below.refl _ _).grown hgr (Nat.le_refl _) (by simp)
    have hsz := hgr.size
    clear hown hgr
    go_wp2
    go_loopw [1, 6] (fun p a wr => ∃ (m : Nat) (k : Int), k + 1 = m ∧ m ≤ n ∧ a = .int .i64 k ∧ p = .int .i64 (i / Sh.pd (xs.drop m)) ∧ ∃ ys, Own wr w.heap.size 3 w.heap.size n n ys ∧ From m ys (Sh.place xs i) ∧ Below w.heap.size w wr) (fun _ a _ => (intOf a + 1).toNat)
    case atStart =>
      refine ⟨n, _, by omega, by omega, rfl, ?_, _, hO, ⟨?_, ?_⟩, hB⟩
      · rw [List.drop_eq_nil_of_le (by have := H1.out; omega)]; simp [Sh.pd]
      · simp [Sh.place_length, H1.out]
      · intro j hj
        rw [List.getElem?_eq_none (by simp; omega), List.getElem?_eq_none (by rw [Sh.place_length, H1.out]; omega)]
    case round =>
      clear hO hB hsz
      obtain ⟨m, k, hkm, hk2, rfl, rfl, ys, hO, hF, hB⟩ := hrel
      by_cases hk0 : 0 ≤ k
      · obtain ⟨m, rfl⟩ := Int.eq_ofNat_of_zero_le hk0
        rename_i m0
        obtain rfl : m0 = m + 1 := by omega
        have hmn : m < n := by omega
        have h' := h.below hB
        obtain ⟨ad, x, rfl, hb, hx, hc, hf⟩ := h'.at_ hmn
        obtain ⟨hx1, hx2⟩ := HE.out x (List.mem_of_getElem? hx)
        have hc2 : wr.cell? ⟨w.heap.size, m, none⟩ = some (.int .i64 (ys.getD m 0)) := hO.cell (by have := hO.len; simp [List.getElem?_eq_getElem (by omega : m < ys.length)])
        have hfz := hO.frozen m
        have hq := Sh.pd_small HD.out hl4 (m + 1)
        have hd0 : 0 ≤ i / Sh.pd (xs.drop (m + 1)) := Int.ediv_nonneg hi0 hq.1
        have hd1 : i / Sh.pd (xs.drop (m + 1)) ≤ 9223372036854775807 := Int.le_trans (Int.ediv_le_self _ hi0) hi2
        have hm0 : 0 ≤ i / Sh.pd (xs.drop (m + 1)) % x := Int.emod_nonneg _ (by omega)
        have hm1 : i / Sh.pd (xs.drop (m + 1)) % x < x := Int.emod_lt_of_pos _ (by omega)
        have HS := Lib.hid (Sh.left_step (i := i) hx HD.out)
        have hO2 := hO.store m (u := i / Sh.pd (xs.drop (m + 1)) % x) ⟨by omega, by omega⟩
        have hF2 := hF.set_ (Sh.place_at (i := i) hx)
        have hB2 := hB.setCell (p := ⟨w.heap.size, m, none⟩) (Nat.le_refl _) (.int .i64 (i / Sh.pd (xs.drop (m + 1)) % x))
        have hc3 : (wr.setCell ⟨w.heap.size, m, none⟩ (.int .i64 (i / Sh.pd (xs.drop (m + 1)) % x))).cell? (ad.add m) = some (.int .i64 x) := (h.below hB2).get hx
        have HX := Lib.hid hx
        clear hx hkm hk0 hO hF hB h' hq
        go_wp2
        go_roundw
        case rel => exact ⟨m, _, by omega, by omega, rfl, by rw [HS.out], _, hO2, hF2, hB2⟩
        case measure => simp [intOf]
      · obtain rfl : m = 0 := by omega
        obtain rfl : k = -1 := by omega
        have HF := Lib.hid hF; clear hF
        go_wp2
        go_ret
        rw [← HF.out.zero]
        exact Makes.own hO hB
  · have HP := Lib.hid (p := Sh.placeOf xs i = []) (by rw [Sh.placeOf, if_neg hok])
    rw [HP.out]
    have H1 := Lib.hid hn; clear hn
    by_cases hi0 : i < 0
    · go_enter Try.func8, Try.ntmps8
      go_wp2_with (go_at_call 18; refine (refSize_any h).mono ?_; rintro e w' ⟨rfl, rfl⟩)
      go_ret
      exact Makes.none_ w
    · have hi3 : Sh.size xs ≤ i := by omega
      clear hok
      go_enter Try.func8, Try.ntmps8
      go_wp2_with (go_at_call 18; refine (refSize_any h).mono ?_; rintro e w' ⟨rfl, rfl⟩)
      go_ret
      exact Makes.none_ w
end Go.Proofs.Ytjmioegagigpmaa
