/- Contracts of the functions that make a list: Strides and Place, the program's and the reference's. -/
import Derived.Test.YtjmioegagigpmaaShapeC
namespace Go.Proofs.Ytjmioegagigpmaa
open Go.RowKit

/-- What a list-making call leaves: a new list that reads as xs; nothing that was there has changed. -/
def Makes (w : World) (xs : List Int) (e : Ending) (w' : World) : Prop :=
  (∃ A n c, e = .returned (.slice A n c) ∧ n ≤ c ∧ Ints w' A n xs) ∧ Below w.heap.size w w'

theorem Makes.none_ (w : World) : Makes w [] (.returned (.slice none 0 0)) w := ⟨⟨_, _, _, rfl, by omega, Ints.nil_ _ _⟩, Below.refl _ _⟩
theorem Makes.own {w w' : World} {b g n c : Nat} {e : TypeId} {xs : List Int} (h : Own w' b e g n c xs) (hb : Below w.heap.size w w') :
    Makes w xs (.returned (.slice (some ⟨g, 0, none⟩) n c)) w' := ⟨⟨_, _, _, rfl, h.cap, h.ints⟩, hb⟩

/-- From place k on the list ys is the list zs. -/
def From (k : Nat) (ys zs : List Int) : Prop := ys.length = zs.length ∧ ∀ j, k ≤ j → ys[j]? = zs[j]?
theorem From.zero {ys zs : List Int} (h : From 0 ys zs) : ys = zs := List.ext_getElem? fun j => h.2 j (by omega)
theorem From.set_ {k : Nat} {ys zs : List Int} {u : Int} (h : From (k + 1) ys zs) (hu : zs[k]? = some u) : From k (ys.set k u) zs := by
  refine ⟨by simpa using h.1, fun j hj => ?_⟩
  have hk : k < ys.length := by rw [h.1]; exact (List.getElem?_eq_some_iff.1 hu).1
  rw [List.getElem?_set]
  by_cases e : k = j
  · subst e; simp [hk, hu]
  · rw [if_neg e]; exact h.2 j (by omega)

theorem Try.infoInt : (Try.prog.info? 3).map (fun i => (i.zero, i.size, i.bytes)) = some (some (.int .i64 0), 1, 8) := by kernel_rfl

set_option maxHeartbeats 400000 in
theorem strides_any {w : World} {A : Option Addr} {n c : Nat} {xs : List Int} (h : Ints w A n xs) :
    Calls Try.prog 15 #[.slice A n c] w fun e w' => Makes w (if Sh.right xs then Sh.strides xs else []) e w' := by
  have hn := h.len
  have hle := h.le
  cases hr : Sh.right xs with
  | false =>
    have H1 := Lib.hid hn; clear hn
    have HR := Lib.hid hr; clear hr
    go_enter Try.func15, Try.ntmps15
    go_wp2_with (go_at_call 16; refine (right_any h).mono ?_; rw [HR.out]; rintro e w' ⟨rfl, rfl⟩)
    go_ret
    exact Makes.none_ w
  | true =>
    obtain ⟨hl4, hd, hbig⟩ := Sh.right_iff.1 hr
    have hn4 : n ≤ 4 := by omega
    have H1 := Lib.hid hn; clear hn
    have HR := Lib.hid hr; clear hr
    have HD := Lib.hid hd; clear hd
    obtain ⟨i0, hi, hz0, hz1, hz2⟩ := info_parts Try.infoInt
    go_enter Try.func15, Try.ntmps15
    go_wp2_with (first | (go_at_call 16; refine (right_any h).mono ?_; rw [HR.out]; rintro e w' ⟨rfl, rfl⟩) | (at_make; refine wpList_make_full _ rfl _ _ _ rfl _ _ i0 (.int .i64 0) 1 Try.underlying22 hi hz0 hz1 .i64 .i64 _ _ n rfl rfl rfl rfl ?c1 ?c2 (Nat.le_refl _) ?_))
    case c1 => rw [hz2]; omega
    case c2 => unfold maxLen; omega
    intro w1 hown hgr
    have hO := own_make (by omega) hown
    have hB : Below w.heap.size w w1 := (Below.refl _ _).grown hgr (Nat.le_refl _) (by simp)
    have hsz := hgr.size
    clear hown hgr
    go_wp2
    go_loopw [4, 5] (fun p a wr => ∃ (m : Nat) (k : Int), k + 1 = m ∧ m ≤ n ∧ a = .int .i64 k ∧ p = .int .i64 (Sh.pd (xs.drop m)) ∧ ∃ ys, Own wr w.heap.size 3 w.heap.size n n ys ∧ From m ys (Sh.strides xs) ∧ Below w.heap.size w wr) (fun _ a _ => (intOf a + 1).toNat)
    case atStart =>
      refine ⟨n, _, by omega, by omega, rfl, ?_, _, hO, ⟨?_, ?_⟩, hB⟩
      · rw [List.drop_eq_nil_of_le (by have := H1.out; omega)]; rfl
      · simp [Sh.strides_length, H1.out]
      · intro j hj
        rw [List.getElem?_eq_none (by simp; omega), List.getElem?_eq_none (by rw [Sh.strides_length, H1.out]; omega)]
    case round =>
      clear hO hB hsz
      obtain ⟨m, k, hkm, hk2, rfl, rfl, ys, hO, hF, hB⟩ := hrel
      by_cases hk0 : 0 ≤ k
      · obtain ⟨m, rfl⟩ := Int.eq_ofNat_of_zero_le hk0
        rename_i m0
        obtain rfl : m0 = m + 1 := by omega
        have hmn : m < n := by omega
        have h' := h.below hB
        obtain ⟨ad, x, rfl, hb, hx, hc, hf⟩ := h'.at_ hmn
        have hc2 : wr.cell? ⟨w.heap.size, m, none⟩ = some (.int .i64 (ys.getD m 0)) := hO.cell (by have := hO.len; simp [List.getElem?_eq_getElem (by omega : m < ys.length)])
        have hfz := hO.frozen m
        have hp := Sh.pd_small HD.out hl4 m
        have hq := Sh.pd_small HD.out hl4 (m + 1)
        rw [Sh.pd_drop hx, Int.mul_comm] at hp
        obtain ⟨hp1, hp2⟩ := hp
        obtain ⟨hq1, hq2⟩ := hq
        have hO2 := hO.store m (u := Sh.pd (xs.drop (m + 1))) ⟨by omega, by omega⟩
        have hF2 := hF.set_ (Sh.strides_at hx)
        have hB2 := hB.setCell (p := ⟨w.heap.size, m, none⟩) (Nat.le_refl _) (.int .i64 (Sh.pd (xs.drop (m + 1))))
        have hc3 : (wr.setCell ⟨w.heap.size, m, none⟩ (.int .i64 (Sh.pd (xs.drop (m + 1))))).cell? (ad.add m) = some (.int .i64 x) := (h.below hB2).get hx
        have HX := Lib.hid hx
        clear hx hkm hk0 hO hF hB h'
        go_wp2
        go_roundw
        case rel => exact ⟨m, _, by omega, by omega, rfl, by rw [Sh.pd_drop HX.out, Int.mul_comm], _, hO2, hF2, hB2⟩
        case measure => simp [intOf]
      · obtain rfl : m = 0 := by omega
        obtain rfl : k = -1 := by omega
        have HF := Lib.hid hF; clear hF
        go_wp2
        go_ret
        rw [← HF.out.zero]
        exact Makes.own hO hB
set_option maxHeartbeats 400000 in
theorem refStrides_any {w : World} {A : Option Addr} {n c : Nat} {xs : List Int} (h : Ints w A n xs) :
    Calls Try.prog 20 #[.slice A n c] w fun e w' => Makes w (if Sh.right xs then Sh.strides xs else []) e w' := by
  have hn := h.len
  have hle := h.le
  cases hr : Sh.right xs with
  | false =>
    have H1 := Lib.hid hn; clear hn
    have HR := Lib.hid hr; clear hr
    go_enter Try.func20, Try.ntmps20
    go_wp2_with (go_at_call 17; refine (refRight_any h).mono ?_; rw [HR.out]; rintro e w' ⟨rfl, rfl⟩)
    go_ret
    exact Makes.none_ w
  | true =>
    obtain ⟨hl4, hd, hbig⟩ := Sh.right_iff.1 hr
    have hn4 : n ≤ 4 := by omega
    have H1 := Lib.hid hn; clear hn
    have HR := Lib.hid hr; clear hr
    have HD := Lib.hid hd; clear hd
    obtain ⟨i0, hi, hz0, hz1, hz2⟩ := info_parts Try.infoInt
    go_enter Try.func20, Try.ntmps20
    go_wp2_with (first | (go_at_call 17; refine (refRight_any h).mono ?_; rw [HR.out]; rintro e w' ⟨rfl, rfl⟩) | (at_make; refine wpList_make_full _ rfl _ _ _ rfl _ _ i0 (.int .i64 0) 1 Try.underlying22 hi hz0 hz1 .i64 .i64 _ _ n rfl rfl rfl rfl ?c1 ?c2 (Nat.le_refl _) ?_))
    case c1 => rw [hz2]; omega
    case c2 => unfold maxLen; omega
    intro w1 hown hgr
    have hO := own_make (by omega) hown
    have hB : Below w.heap.size w w1 := (Below.refl _ _).grown hgr (Nat.le_refl _) (by simp)
    have hsz := hgr.size
    clear hown hgr
    go_wp2
    go_loopw [4, 5] (fun p a wr => ∃ (m : Nat) (k : Int), k + 1 = m ∧ m ≤ n ∧ a = .int .i64 k ∧ p = .int .i64 (Sh.pd (xs.drop m)) ∧ ∃ ys, Own wr w.heap.size 3 w.heap.size n n ys ∧ From m ys (Sh.strides xs) ∧ Below w.heap.size w wr) (fun _ a _ => (intOf a + 1).toNat)
    case atStart =>
      refine ⟨n, _, by omega, by omega, rfl, ?_, _, hO, ⟨?_, ?_⟩, hB⟩
      · rw [List.drop_eq_nil_of_le (by have := H1.out; omega)]; rfl
      · simp [Sh.strides_length, H1.out]
      · intro j hj
        rw [List.getElem?_eq_none (by simp; omega), List.getElem?_eq_none (by rw [Sh.strides_length, H1.out]; omega)]
    case round =>
      clear hO hB hsz
      obtain ⟨m, k, hkm, hk2, rfl, rfl, ys, hO, hF, hB⟩ := hrel
      by_cases hk0 : 0 ≤ k
      · obtain ⟨m, rfl⟩ := Int.eq_ofNat_of_zero_le hk0
        rename_i m0
        obtain rfl : m0 = m + 1 := by omega
        have hmn : m < n := by omega
        have h' := h.below hB
        obtain ⟨ad, x, rfl, hb, hx, hc, hf⟩ := h'.at_ hmn
        have hc2 : wr.cell? ⟨w.heap.size, m, none⟩ = some (.int .i64 (ys.getD m 0)) := hO.cell (by have := hO.len; simp [List.getElem?_eq_getElem (by omega : m < ys.length)])
        have hfz := hO.frozen m
        have hp := Sh.pd_small HD.out hl4 m
        have hq := Sh.pd_small HD.out hl4 (m + 1)
        rw [Sh.pd_drop hx, Int.mul_comm] at hp
        obtain ⟨hp1, hp2⟩ := hp
        obtain ⟨hq1, hq2⟩ := hq
        have hO2 := hO.store m (u := Sh.pd (xs.drop (m + 1))) ⟨by omega, by omega⟩
        have hF2 := hF.set_ (Sh.strides_at hx)
        have hB2 := hB.setCell (p := ⟨w.heap.size, m, none⟩) (Nat.le_refl _) (.int .i64 (Sh.pd (xs.drop (m + 1))))
        have hc3 : (wr.setCell ⟨w.heap.size, m, none⟩ (.int .i64 (Sh.pd (xs.drop (m + 1))))).cell? (ad.add m) = some (.int .i64 x) := (h.below hB2).get hx
        have HX := Lib.hid hx
        clear hx hkm hk0 hO hF hB h'
        go_wp2
        go_roundw
        case rel => exact ⟨m, _, by omega, by omega, rfl, by rw [Sh.pd_drop HX.out, Int.mul_comm], _, hO2, hF2, hB2⟩
        case measure => simp [intOf]
      · obtain rfl : m = 0 := by omega
        obtain rfl : k = -1 := by omega
        have HF := Lib.hid hF; clear hF
        go_wp2
        go_ret
        rw [← HF.out.zero]
        exact Makes.own hO hB
end Go.Proofs.Ytjmioegagigpmaa
