/- Contracts of package shape. -/
import Derived.Test.YthgpiimagbcmbaaRows
import Derived.Test.YthgpiimagbcmbaaKit
import Derived.Test.YthgpiimagbcmbaaShapeMath
namespace Go.Proofs.Ythgpiimagbcmbaa
open Go.RowKit

theorem Try.infoInt : (Try.prog.info? 3).map (fun i => (i.zero, i.size, i.bytes)) = some (some (.int .i64 0), 1, 8) := by kernel_rfl

set_option maxHeartbeats 400000 in
theorem product_any {w : World} {A : Option Addr} {n c : Nat} {xs : List Int} (h : Ints w A n xs) :
    Calls Try.prog 49 #[.slice A n c] w fun e w' => e = .returned (.tuple #[.int .i64 (Sh.size xs), .bool (Sh.right xs)]) ∧ w = w' := by
  have hn := h.len
  have hle := h.le
  by_cases h4 : n ≤ 4
  · go_enter Try.func49, Try.ntmps49
    go_wp2
    go_loop [4, 12] (fun p i => ∃ k : Nat, k ≤ n ∧ i = .int .i64 k ∧ p = .int .i64 (Sh.pr (xs.take k)) ∧ ∀ x ∈ xs.take k, 0 ≤ x ∧ x ≤ 32) (fun _ i => n - (intOf i).toNat)
    case atStart => exact ⟨0, Nat.zero_le _, rfl, rfl, by simp⟩
    case round =>
      obtain ⟨k, hk, rfl, rfl, hd⟩ := hrel
      have H2 := Lib.hid hn; clear hn
      by_cases hlt : k < n
      · obtain ⟨ad, x, rfl, hb, hx, hc, hf⟩ := h.at_ hlt
        have H := Lib.hid hx; clear hx
        have HD := Lib.hid hd; clear hd
        by_cases hx0 : 0 ≤ x ∧ x ≤ 32
        · obtain ⟨hx1, hx2⟩ := hx0
          have hall : ∀ y ∈ xs.take (k + 1), 0 ≤ y ∧ y ≤ 32 := by
            intro y hy
            rw [List.take_add_one, H.out] at hy
            simp at hy
            rcases hy with hy | rfl
            · exact HD.out y hy
            · exact ⟨hx1, hx2⟩
          have hm := Sh.pr_small (xs.take (k + 1)) hall (by have := H2.out; simp; omega)
          rw [Sh.pr_take _ H.out] at hm
          obtain ⟨hm1, hm2⟩ := hm
          have HA := Lib.hid hall; clear hall
          go_wp2
          go_round
          case rel => exact ⟨k + 1, by omega, by go_num, by rw [Sh.pr_take _ H.out], HA.out⟩
          case measure => simp [intOf]; omega
        · have hr := Sh.not_right_dim H.out hx0
          have HR := Lib.hid hr; clear hr
          by_cases hx1 : x < 0
          · go_wp2
            go_ret2
            exact ⟨ret_ib (Sh.size_not HR.out).symm HR.out.symm, rfl⟩
          · have hx2 : 32 < x := by omega
            go_wp2
            go_ret2
            exact ⟨ret_ib (Sh.size_not HR.out).symm HR.out.symm, rfl⟩
      · have hkn : k = n := by omega
        have ht : xs.take k = xs := List.take_of_length_le (by have := H2.out; omega)
        rw [ht] at hd ⊢
        have hb := Sh.pr_small xs hd (by have := H2.out; omega)
        have HD := Lib.hid hd; clear hd
        have HT := Lib.hid ht; clear ht
        have HK := Lib.hid hkn; clear hkn
        by_cases hbig : Sh.pr xs ≤ 4096
        · have hr : Sh.right xs = true := Sh.right_iff.2 ⟨by have := H2.out; omega, HD.out, hbig⟩
          have HR := Lib.hid hr; clear hr
          go_wp2
          go_ret2
          exact ⟨ret_ib (Sh.size_of HR.out).symm HR.out.symm, rfl⟩
        · have hr : Sh.right xs = false := Sh.not_right_big hbig
          have HR := Lib.hid hr; clear hr
          go_wp2
          go_ret2
          exact ⟨ret_ib (Sh.size_not HR.out).symm HR.out.symm, rfl⟩
  · have hr : Sh.right xs = false := Sh.not_right_long (by omega)
    have HR := Lib.hid hr; clear hr
    have H2 := Lib.hid hn; clear hn
    go_enter Try.func49, Try.ntmps49
    go_wp2
    go_ret2
    exact ⟨ret_ib (Sh.size_not HR.out).symm HR.out.symm, rfl⟩

theorem right_any {w : World} {A : Option Addr} {n c : Nat} {xs : List Int} (h : Ints w A n xs) :
    Calls Try.prog 38 #[.slice A n c] w fun e w' => e = .returned (.bool (Sh.right xs)) ∧ w = w' := by
  go_enter Try.func38, Try.ntmps38
  go_wp2_with (go_at_call 49; refine (product_any h).mono ?_; rintro e w' ⟨rfl, rfl⟩)
  go_ret
  exact ⟨rfl, rfl⟩

theorem size_any {w : World} {A : Option Addr} {n c : Nat} {xs : List Int} (h : Ints w A n xs) :
    Calls Try.prog 46 #[.slice A n c] w fun e w' => e = .returned (.int .i64 (Sh.size xs)) ∧ w = w' := by
  go_enter Try.func46, Try.ntmps46
  go_wp2_with (go_at_call 49; refine (product_any h).mono ?_; rintro e w' ⟨rfl, rfl⟩)
  go_ret
  exact ⟨rfl, rfl⟩



set_option maxHeartbeats 400000 in
theorem strides_any {w : World} {A : Option Addr} {n c : Nat} {xs : List Int} (h : Ints w A n xs) :
    Calls Try.prog 30 #[.slice A n c] w fun e w' => Makes w (if Sh.right xs then Sh.strides xs else []) e w' := by
  have hn := h.len
  have hle := h.le
  cases hr : Sh.right xs with
  | false =>
    have H1 := Lib.hid hn; clear hn
    have HR := Lib.hid hr; clear hr
    go_enter Try.func30, Try.ntmps30
    go_wp2_with (go_at_call 38; refine (right_any h).mono ?_; rw [HR.out]; rintro e w' ⟨rfl, rfl⟩)
    go_ret
    exact Makes.none_ w
  | true =>
    obtain ⟨hl4, hd, hbig⟩ := Sh.right_iff.1 hr
    have hn4 : n ≤ 4 := by omega
    have H1 := Lib.hid hn; clear hn
    have HR := Lib.hid hr; clear hr
    have HD := Lib.hid hd; clear hd
    obtain ⟨i0, hi, hz0, hz1, hz2⟩ := info_parts Try.infoInt
    go_enter Try.func30, Try.ntmps30
    go_wp2_with (first | (go_at_call 38; refine (right_any h).mono ?_; rw [HR.out]; rintro e w' ⟨rfl, rfl⟩) | (at_make; refine wpList_make_full _ rfl _ _ _ rfl _ _ i0 (.int .i64 0) 1 Try.underlying22 hi hz0 hz1 .i64 .i64 _ _ n rfl rfl rfl rfl ?c1 ?c2 (Nat.le_refl _) ?_))
    case c1 => rw [hz2]; omega
    case c2 => unfold maxLen; omega
    intro w1 hown hgr
    have hO := own_make (by omega) hown
    have hB : Below w.heap.size w w1 := (Below.refl _ _).grown hgr (Nat.le_refl _) (by simp)
    have hsz := hgr.size
    clear hown hgr
    go_wp2
    go_loopw [4, 5] (fun p a wr => ∃ (m : Nat) (k : Int), k + 1 = m ∧ m ≤ n ∧ a = .int .i64 k ∧ p = .int .i64 (Sh.pd (xs.drop m)) ∧ ∃ ys, Own wr w.heap.size 3 w.heap.size n n ys ∧ From m ys (Sh.strides xs) ∧ Below w.heap.size w wr) (fun _ a _ => (intOf a + 1).toNat)
    case atStart =>
      refine ⟨n, _, by omega, by omega, rfl, ?_, _, hO, ⟨?_, ?_⟩, hB⟩
      · rw [List.drop_eq_nil_of_le (by have := H1.out; omega)]; rfl
      · simp [Sh.strides_length, H1.out]
      · intro j hj
        rw [List.getElem?_eq_none (by simp; omega), List.getElem?_eq_none (by rw [Sh.strides_length, H1.out]; omega)]
    case round =>
      clear hO hB hsz
      obtain ⟨m, k, hkm, hk2, rfl, rfl, ys, hO, hF, hB⟩ := hrel
      by_cases hk0 : 0 ≤ k
      · obtain ⟨m, rfl⟩ := Int.eq_ofNat_of_zero_le hk0
        rename_i m0
        obtain rfl : m0 = m + 1 := by omega
        have hmn : m < n := by omega
        have h' := h.below hB
        obtain ⟨ad, x, rfl, hb, hx, hc, hf⟩ := h'.at_ hmn
        have hc2 : wr.cell? ⟨w.heap.size, m, none⟩ = some (.int .i64 (ys.getD m 0)) := hO.cell (by have := hO.len; simp [List.getElem?_eq_getElem (by omega : m < ys.length)])
        have hfz := hO.frozen m
        have hp := Sh.pd_small HD.out hl4 m
        have hq := Sh.pd_small HD.out hl4 (m + 1)
        rw [Sh.pd_drop hx, Int.mul_comm] at hp
        obtain ⟨hp1, hp2⟩ := hp
        obtain ⟨hq1, hq2⟩ := hq
        have hO2 := hO.store m (u := Sh.pd (xs.drop (m + 1))) ⟨by omega, by omega⟩
        have hF2 := hF.set_ (Sh.strides_at hx)
        have hB2 := hB.setCell (p := ⟨w.heap.size, m, none⟩) (Nat.le_refl _) (.int .i64 (Sh.pd (xs.drop (m + 1))))
        have hc3 : (wr.setCell ⟨w.heap.size, m, none⟩ (.int .i64 (Sh.pd (xs.drop (m + 1))))).cell? (ad.add m) = some (.int .i64 x) := (h.below hB2).get hx
        have HX := Lib.hid hx
        clear hx hkm hk0 hO hF hB h'
        go_wp2
        go_roundw
        case rel => exact ⟨m, _, by omega, by omega, rfl, by rw [Sh.pd_drop HX.out, Int.mul_comm], _, hO2, hF2, hB2⟩
        case measure => simp [intOf]
      · obtain rfl : m = 0 := by omega
        obtain rfl : k = -1 := by omega
        have HF := Lib.hid hF; clear hF
        go_wp2
        go_ret
        rw [← HF.out.zero]
        exact Makes.own hO hB


end Go.Proofs.Ythgpiimagbcmbaa
