/- Places of one's own. -/
import Derived.Test.YtiigbkjkmfjhcaaRef
import Derived.Test.YtiigbkjkmfjhcaaShape
import Derived.Test.YtiigbkjkmfjhcaaSep
import Derived.Test.YtiigbkjkmfjhcaaTenD
namespace Go.Proofs.Ytiigbkjkmfjhcaa
open Go.RowKit

/-- A call's answer is a list of its own. -/
def MakesO (w : World) (t : TypeId) (xs : List Int) (e : Ending) (w' : World) : Prop := (∃ v n, e = .returned v ∧ OwnS w' w.heap.size t v n xs) ∧ Below w.heap.size w w'
theorem MakesO.none_ (w : World) (t : TypeId) : MakesO w t [] (.returned (.slice none 0 0)) w := ⟨⟨_, _, rfl, OwnS.nil_ _ _ _⟩, Below.refl _ _⟩
theorem MakesO.own {w w' : World} {g n c : Nat} {t : TypeId} {xs : List Int} (h : Own w' w.heap.size t g n c xs) (hb : Below w.heap.size w w') : MakesO w t xs (.returned (.slice (some ⟨g, 0, none⟩) n c)) w' := ⟨⟨_, _, rfl, h⟩, hb⟩

/-- A call that gives a tensor and a word hands back what its result's block holds. -/
theorem sep_ret2 {fn : Func} {R : Ending → World → Prop} {a : Act} {w0 w : World} {l : List Chunk} {p u : Tmp} {g : Nat} {x y z : Value} (H : Sep w0 w l) (i : Nat) (hi : l[i]? = some (.box g 27 [x, y]))
    (h : fn.results = #[.cell p 27, .tmp u]) (hp : a.tmps.getD p undef = .pointer (some ⟨g, 0, none⟩)) (hz : a.tmps.getD u undef = z) (hd : a.defers = []) (hR : R (.returned (.tuple #[.agg #[x, y], z])) w) : bodyPost Try.prog fn R .ret a w :=
  ret_ten2 g x y z h hp hz (H.heap i hi) hd hR
/-- A tensor of one's own, among the things kept: its two lists, and their values. -/
theorem Sep.addTen {w0 w w' : World} {l : List Chunk} {u : Value} {s d : List Int} (h : Sep w0 w l) (hb : Below w.heap.size w w') (hu : OTen w' w.heap.size u s d) :
    ∃ S ns sc D nd dc, u = .agg #[.slice S ns sc, .slice D nd dc] ∧ s.length = ns ∧ d.length = nd ∧ ns ≤ sc ∧ nd ≤ dc ∧ nd ≤ 9223372036854775807 ∧ Sep w0 w' (.own 3 (.slice S ns sc) ns s :: .own 2 (.slice D nd dc) nd d :: l) := by
  obtain ⟨vs, vd, ns, nd, rfl, h1, h2⟩ := hu
  obtain ⟨S, sc, rfl, hs, _, _⟩ := h1.form
  obtain ⟨D, dc, rfl, hd, _, _⟩ := h2.form
  exact ⟨S, ns, sc, D, nd, dc, rfl, h1.len, h2.len, hs, hd, h2.2.2, h.addOwn2 hb h1 h2 (Ne.symm ty_ne.1)⟩

set_option maxRecDepth 100000 in
set_option maxHeartbeats 800000 in
theorem refPlace_own {w : World} {A : Option Addr} {n c : Nat} {xs : List Int} (i : Int) (h : Ints w A n xs) (hif : Fits i) :
    Calls Try.prog 37 #[.slice A n c, .int .i64 i] w fun e w' => MakesO w 3 (Sh.placeOf xs i) e w' := by
  have hn := h.len
  have hle := h.le
  have hsb := Sh.size_bd xs
  obtain ⟨hsb1, hsb2⟩ := hsb
  obtain ⟨hi1, hi2⟩ := hif
  by_cases hok : 0 ≤ i ∧ i < Sh.size xs
  · obtain ⟨hr, hd⟩ := Sh.size_pos hok.1 hok.2
    have HP := Lib.hid (p := Sh.placeOf xs i = Sh.place xs i) (by rw [Sh.placeOf, if_pos hok])
    obtain ⟨hi0, his⟩ := hok
    have hl4 := (Sh.right_iff.1 hr).1
    have hn4 : n ≤ 4 := by omega
    have HD : Hid (∀ x ∈ xs, 0 ≤ x ∧ x ≤ 32) := Lib.hid fun x hx => ⟨by have := hd x hx; omega, (hd x hx).2⟩
    have H1 := Lib.hid hn; clear hn
    have HR := Lib.hid hr; clear hr
    have HE := Lib.hid hd; clear hd
    obtain ⟨i0, hi, hz0, hz1, hz2⟩ := info_parts Try.infoInt
    rw [HP.out]
    go_enter Try.func37, Try.ntmps37
    go_wp2_with (first | (go_at_call 18; refine (refSize_any h).mono ?_; rintro e w' ⟨rfl, rfl⟩) | (at_make; refine wpList_make_full _ rfl _ _ _ rfl _ _ i0 (.int .i64 0) 1 Try.underlying23 hi hz0 hz1 .i64 .i64 _ _ n rfl rfl rfl rfl ?c1 ?c2 (Nat.le_refl _) ?_))
    case c1 => rw [hz2]; omega
    case c2 => unfold maxLen; omega
    intro w1 hown hgr
    have hO := own_make (by omega) hown
    have hB : Below w.heap.size w w1 := (Below.refl _ _).grown hgr (Nat.le_refl _) (by simp)
    have hsz := hgr.size
    clear hown hgr
    go_wp2
    go_loopw [1, 6] (fun p a wr => ∃ (m : Nat) (k : Int), k + 1 = m ∧ m ≤ n ∧ a = .int .i64 k ∧ p = .int .i64 (i / Sh.pd (xs.drop m)) ∧ ∃ ys, Own wr w.heap.size 3 w.heap.size n n ys ∧ From m ys (Sh.place xs i) ∧ Below w.heap.size w wr) (fun _ a _ => (intOf a + 1).toNat)
    case atStart =>
      refine ⟨n, _, by omega, by omega, rfl, ?_, _, hO, ⟨?_, ?_⟩, hB⟩
      · rw [List.drop_eq_nil_of_le (by have := H1.out; omega)]; simp [Sh.pd]
      · simp [Sh.place_length, H1.out]
      · intro j hj
        rw [List.getElem?_eq_none (by simp; omega), List.getElem?_eq_none (by rw [Sh.place_length, H1.out]; omega)]
    case round =>
      clear hO hB hsz
      obtain ⟨m, k, hkm, hk2, rfl, rfl, ys, hO, hF, hB⟩ := hrel
      by_cases hk0 : 0 ≤ k
      · obtain ⟨m, rfl⟩ := Int.eq_ofNat_of_zero_le hk0
        rename_i m0
        obtain rfl : m0 = m + 1 := by omega
        have hmn : m < n := by omega
        have h' := h.below hB
        obtain ⟨ad, x, rfl, hb, hx, hc, hf⟩ := h'.at_ hmn
        obtain ⟨hx1, hx2⟩ := HE.out x (List.mem_of_getElem? hx)
        have hc2 : wr.cell? ⟨w.heap.size, m, none⟩ = some (.int .i64 (ys.getD m 0)) := hO.cell (by have := hO.len; simp [List.getElem?_eq_getElem (by omega : m < ys.length)])
        have hfz := hO.frozen m
        have hq := Sh.pd_small HD.out hl4 (m + 1)
        have hd0 : 0 ≤ i / Sh.pd (xs.drop (m + 1)) := Int.ediv_nonneg hi0 hq.1
        have hd1 : i / Sh.pd (xs.drop (m + 1)) ≤ 9223372036854775807 := Int.le_trans (Int.ediv_le_self _ hi0) hi2
        have hm0 : 0 ≤ i / Sh.pd (xs.drop (m + 1)) % x := Int.emod_nonneg _ (by omega)
        have hm1 : i / Sh.pd (xs.drop (m + 1)) % x < x := Int.emod_lt_of_pos _ (by omega)
        have HS := Lib.hid (Sh.left_step (i := i) hx HD.out)
        have hO2 := hO.store m (u := i / Sh.pd (xs.drop (m + 1)) % x) ⟨by omega, by omega⟩
        have hF2 := hF.set_ (Sh.place_at (i := i) hx)
        have hB2 := hB.setCell (p := ⟨w.heap.size, m, none⟩) (Nat.le_refl _) (.int .i64 (i / Sh.pd (xs.drop (m + 1)) % x))
        have hc3 : (wr.setCell ⟨w.heap.size, m, none⟩ (.int .i64 (i / Sh.pd (xs.drop (m + 1)) % x))).cell? (ad.add m) = some (.int .i64 x) := (h.below hB2).get hx
        have HX := Lib.hid hx
        clear hx hkm hk0 hO hF hB h' hq
        go_wp2
        go_roundw
        case rel => exact ⟨m, _, by omega, by omega, rfl, by rw [HS.out], _, hO2, hF2, hB2⟩
        case measure => simp [intOf]
      · obtain rfl : m = 0 := by omega
        obtain rfl : k = -1 := by omega
        have HF := Lib.hid hF; clear hF
        go_wp2
        go_ret
        rw [← HF.out.zero]
        exact MakesO.own hO hB
  · have HP := Lib.hid (p := Sh.placeOf xs i = []) (by rw [Sh.placeOf, if_neg hok])
    rw [HP.out]
    have H1 := Lib.hid hn; clear hn
    by_cases hi0 : i < 0
    · go_enter Try.func37, Try.ntmps37
      go_wp2_with (go_at_call 18; refine (refSize_any h).mono ?_; rintro e w' ⟨rfl, rfl⟩)
      go_ret
      exact MakesO.none_ w _
    · have hi3 : Sh.size xs ≤ i := by omega
      clear hok
      go_enter Try.func37, Try.ntmps37
      go_wp2_with (go_at_call 18; refine (refSize_any h).mono ?_; rintro e w' ⟨rfl, rfl⟩)
      go_ret
      exact MakesO.none_ w _

set_option maxRecDepth 100000 in
set_option maxHeartbeats 800000 in
theorem place_own {w : World} {A : Option Addr} {n c : Nat} {xs : List Int} (i : Int) (h : Ints w A n xs) (hif : Fits i) :
    Calls Try.prog 27 #[.slice A n c, .int .i64 i] w fun e w' => MakesO w 3 (Sh.placeOf xs i) e w' := by
  have hn := h.len
  have hle := h.le
  have hsb := Sh.size_bd xs
  obtain ⟨hsb1, hsb2⟩ := hsb
  obtain ⟨hi1, hi2⟩ := hif
  by_cases hok : 0 ≤ i ∧ i < Sh.size xs
  · obtain ⟨hr, hd⟩ := Sh.size_pos hok.1 hok.2
    have HP := Lib.hid (p := Sh.placeOf xs i = Sh.place xs i) (by rw [Sh.placeOf, if_pos hok])
    obtain ⟨hi0, his⟩ := hok
    have hl4 := (Sh.right_iff.1 hr).1
    have hn4 : n ≤ 4 := by omega
    have HD : Hid (∀ x ∈ xs, 0 ≤ x ∧ x ≤ 32) := Lib.hid fun x hx => ⟨by have := hd x hx; omega, (hd x hx).2⟩
    have H1 := Lib.hid hn; clear hn
    have HR := Lib.hid hr; clear hr
    have HE := Lib.hid hd; clear hd
    obtain ⟨i0, hi, hz0, hz1, hz2⟩ := info_parts Try.infoInt
    rw [HP.out]
    go_enter Try.func27, Try.ntmps27
    go_wp2_with (first | (go_at_call 42; refine (size_any h).mono ?_; rintro e w' ⟨rfl, rfl⟩) | (at_make; refine wpList_make_full _ rfl _ _ _ rfl _ _ i0 (.int .i64 0) 1 Try.underlying23 hi hz0 hz1 .i64 .i64 _ _ n rfl rfl rfl rfl ?c1 ?c2 (Nat.le_refl _) ?_))
    case c1 => rw [hz2]; omega
    case c2 => unfold maxLen; omega
    intro w1 hown hgr
    have hO := own_make (by omega) hown
    have hB : Below w.heap.size w w1 := (Below.refl _ _).grown hgr (Nat.le_refl _) (by simp)
    have hsz := hgr.size
    clear hown hgr
    go_wp2
    go_loopw [1, 6] (fun p a wr => ∃ (m : Nat) (k : Int), k + 1 = m ∧ m ≤ n ∧ a = .int .i64 k ∧ p = .int .i64 (i / Sh.pd (xs.drop m)) ∧ ∃ ys, Own wr w.heap.size 3 w.heap.size n n ys ∧ From m ys (Sh.place xs i) ∧ Below w.heap.size w wr) (fun _ a _ => (intOf a + 1).toNat)
    case atStart =>
      refine ⟨n, _, by omega, by omega, rfl, ?_, _, hO, ⟨?_, ?_⟩, hB⟩
      · rw [List.drop_eq_nil_of_le (by have := H1.out; omega)]; simp [Sh.pd]
      · simp [Sh.place_length, H1.out]
      · intro j hj
        rw [List.getElem?_eq_none (by simp; omega), List.getElem?_eq_none (by rw [Sh.place_length, H1.out]; omega)]
    case round =>
      clear hO hB hsz
      obtain ⟨m, k, hkm, hk2, rfl, rfl, ys, hO, hF, hB⟩ := hrel
      by_cases hk0 : 0 ≤ k
      · obtain ⟨m, rfl⟩ := Int.eq_ofNat_of_zero_le hk0
        rename_i m0
        obtain rfl : m0 = m + 1 := by omega
        have hmn : m < n := by omega
        have h' := h.below hB
        obtain ⟨ad, x, rfl, hb, hx, hc, hf⟩ := h'.at_ hmn
        obtain ⟨hx1, hx2⟩ := HE.out x (List.mem_of_getElem? hx)
        have hc2 : wr.cell? ⟨w.heap.size, m, none⟩ = some (.int .i64 (ys.getD m 0)) := hO.cell (by have := hO.len; simp [List.getElem?_eq_getElem (by omega : m < ys.length)])
        have hfz := hO.frozen m
        have hq := Sh.pd_small HD.out hl4 (m + 1)
        have hd0 : 0 ≤ i / Sh.pd (xs.drop (m + 1)) := Int.ediv_nonneg hi0 hq.1
        have hd1 : i / Sh.pd (xs.drop (m + 1)) ≤ 9223372036854775807 := Int.le_trans (Int.ediv_le_self _ hi0) hi2
        have hm0 : 0 ≤ i / Sh.pd (xs.drop (m + 1)) % x := Int.emod_nonneg _ (by omega)
        have hm1 : i / Sh.pd (xs.drop (m + 1)) % x < x := Int.emod_lt_of_pos _ (by omega)
        have HS := Lib.hid (Sh.left_step (i := i) hx HD.out)
        have hO2 := hO.store m (u := i / Sh.pd (xs.drop (m + 1)) % x) ⟨by omega, by omega⟩
        have hF2 := hF.set_ (Sh.place_at (i := i) hx)
        have hB2 := hB.setCell (p := ⟨w.heap.size, m, none⟩) (Nat.le_refl _) (.int .i64 (i / Sh.pd (xs.drop (m + 1)) % x))
        have hc3 : (wr.setCell ⟨w.heap.size, m, none⟩ (.int .i64 (i / Sh.pd (xs.drop (m + 1)) % x))).cell? (ad.add m) = some (.int .i64 x) := (h.below hB2).get hx
        have HX := Lib.hid hx
        clear hx hkm hk0 hO hF hB h' hq
        go_wp2
        go_roundw
        case rel => exact ⟨m, _, by omega, by omega, rfl, by rw [HS.out], _, hO2, hF2, hB2⟩
        case measure => simp [intOf]
      · obtain rfl : m = 0 := by omega
        obtain rfl : k = -1 := by omega
        have HF := Lib.hid hF; clear hF
        go_wp2
        go_ret
        rw [← HF.out.zero]
        exact MakesO.own hO hB
  · have HP := Lib.hid (p := Sh.placeOf xs i = []) (by rw [Sh.placeOf, if_neg hok])
    rw [HP.out]
    have H1 := Lib.hid hn; clear hn
    by_cases hi0 : i < 0
    · go_enter Try.func27, Try.ntmps27
      go_wp2_with (go_at_call 42; refine (size_any h).mono ?_; rintro e w' ⟨rfl, rfl⟩)
      go_ret
      exact MakesO.none_ w _
    · have hi3 : Sh.size xs ≤ i := by omega
      clear hok
      go_enter Try.func27, Try.ntmps27
      go_wp2_with (go_at_call 42; refine (size_any h).mono ?_; rintro e w' ⟨rfl, rfl⟩)
      go_ret
      exact MakesO.none_ w _

set_option maxRecDepth 100000 in
set_option maxHeartbeats 400000 in
theorem strides_own {w : World} {A : Option Addr} {n c : Nat} {xs : List Int} (h : Ints w A n xs) :
    Calls Try.prog 26 #[.slice A n c] w fun e w' => MakesO w 3 (if Sh.right xs then Sh.strides xs else []) e w' := by
  have hn := h.len
  have hle := h.le
  cases hr : Sh.right xs with
  | false =>
    have H1 := Lib.hid hn; clear hn
    have HR := Lib.hid hr; clear hr
    go_enter Try.func26, Try.ntmps26
    go_wp2_with (go_at_call 41; refine (right_any h).mono ?_; rw [HR.out]; rintro e w' ⟨rfl, rfl⟩)
    go_ret
    exact MakesO.none_ w _
  | true =>
    obtain ⟨hl4, hd, hbig⟩ := Sh.right_iff.1 hr
    have hn4 : n ≤ 4 := by omega
    have H1 := Lib.hid hn; clear hn
    have HR := Lib.hid hr; clear hr
    have HD := Lib.hid hd; clear hd
    obtain ⟨i0, hi, hz0, hz1, hz2⟩ := info_parts Try.infoInt
    go_enter Try.func26, Try.ntmps26
    go_wp2_with (first | (go_at_call 41; refine (right_any h).mono ?_; rw [HR.out]; rintro e w' ⟨rfl, rfl⟩) | (at_make; refine wpList_make_full _ rfl _ _ _ rfl _ _ i0 (.int .i64 0) 1 Try.underlying23 hi hz0 hz1 .i64 .i64 _ _ n rfl rfl rfl rfl ?c1 ?c2 (Nat.le_refl _) ?_))
    case c1 => rw [hz2]; omega
    case c2 => unfold maxLen; omega
    intro w1 hown hgr
    have hO := own_make (by omega) hown
    have hB : Below w.heap.size w w1 := (Below.refl _ _).grown hgr (Nat.le_refl _) (by simp)
    have hsz := hgr.size
    clear hown hgr
    go_wp2
    go_loopw [4, 5] (fun p a wr => ∃ (m : Nat) (k : Int), k + 1 = m ∧ m ≤ n ∧ a = .int .i64 k ∧ p = .int .i64 (Sh.pd (xs.drop m)) ∧ ∃ ys, Own wr w.heap.size 3 w.heap.size n n ys ∧ From m ys (Sh.strides xs) ∧ Below w.heap.size w wr) (fun _ a _ => (intOf a + 1).toNat)
    case atStart =>
      refine ⟨n, _, by omega, by omega, rfl, ?_, _, hO, ⟨?_, ?_⟩, hB⟩
      · rw [List.drop_eq_nil_of_le (by have := H1.out; omega)]; rfl
      · simp [Sh.strides_length, H1.out]
      · intro j hj
        rw [List.getElem?_eq_none (by simp; omega), List.getElem?_eq_none (by rw [Sh.strides_length, H1.out]; omega)]
    case round =>
      clear hO hB hsz
      obtain ⟨m, k, hkm, hk2, rfl, rfl, ys, hO, hF, hB⟩ := hrel
      by_cases hk0 : 0 ≤ k
      · obtain ⟨m, rfl⟩ := Int.eq_ofNat_of_zero_le hk0
        rename_i m0
        obtain rfl : m0 = m + 1 := by omega
        have hmn : m < n := by omega
        have h' := h.below hB
        obtain ⟨ad, x, rfl, hb, hx, hc, hf⟩ := h'.at_ hmn
        have hc2 : wr.cell? ⟨w.heap.size, m, none⟩ = some (.int .i64 (ys.getD m 0)) := hO.cell (by have := hO.len; simp [List.getElem?_eq_getElem (by omega : m < ys.length)])
        have hfz := hO.frozen m
        have hp := Sh.pd_small HD.out hl4 m
        have hq := Sh.pd_small HD.out hl4 (m + 1)
        rw [Sh.pd_drop hx, Int.mul_comm] at hp
        obtain ⟨hp1, hp2⟩ := hp
        obtain ⟨hq1, hq2⟩ := hq
        have hO2 := hO.store m (u := Sh.pd (xs.drop (m + 1))) ⟨by omega, by omega⟩
        have hF2 := hF.set_ (Sh.strides_at hx)
        have hB2 := hB.setCell (p := ⟨w.heap.size, m, none⟩) (Nat.le_refl _) (.int .i64 (Sh.pd (xs.drop (m + 1))))
        have hc3 : (wr.setCell ⟨w.heap.size, m, none⟩ (.int .i64 (Sh.pd (xs.drop (m + 1))))).cell? (ad.add m) = some (.int .i64 x) := (h.below hB2).get hx
        have HX := Lib.hid hx
        clear hx hkm hk0 hO hF hB h'
        go_wp2
        go_roundw
        case rel => exact ⟨m, _, by omega, by omega, rfl, by rw [Sh.pd_drop HX.out, Int.mul_comm], _, hO2, hF2, hB2⟩
        case measure => simp [intOf]
      · obtain rfl : m = 0 := by omega
        obtain rfl : k = -1 := by omega
        have HF := Lib.hid hF; clear hF
        go_wp2
        go_ret
        rw [← HF.out.zero]
        exact MakesO.own hO hB
end Go.Proofs.Ytiigbkjkmfjhcaa
