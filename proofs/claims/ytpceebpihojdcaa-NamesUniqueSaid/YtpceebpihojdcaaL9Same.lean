/- The law functions runes, same, known of stage 9. -/
import Derived.Test.YtpceebpihojdcaaNamesC
namespace Go.Proofs.Ytpceebpihojdcaa
open Go.RowKit

set_option maxRecDepth 100000 in
set_option maxHeartbeats 400000 in
theorem bookSame9_any {w : World} {A B : Option Addr} {n c m d : Nat} {xs ys : List Int} (h : Ints w A n xs) (g : Ints w B m ys) :
    Calls Try.prog 12 #[.slice A n c, .slice B m d] w fun e w' => e = .returned (.bool (xs == ys)) ∧ ∃ k, w' = w.drewN k := by
  have hn := h.len
  have hm := g.len
  have hle := h.le
  have hme := g.le
  by_cases hnm : n = m
  · subst hnm
    have H1 := Lib.hid hn; clear hn
    have H2 := Lib.hid hm; clear hm
    go_enter Try.func12, Try.ntmps12
    go_wp2
    go_loopw [5] (fun i wr => ∃ k : Nat, k ≤ n ∧ i = .int .i64 k ∧ xs.take k = ys.take k ∧ ∃ q, wr = w.drewN q) (fun i _ => n - (intOf i).toNat)
    case atStart => exact ⟨0, Nat.zero_le _, rfl, rfl, 0, rfl⟩
    case round =>
      obtain ⟨k, hk, rfl, hd, q, rfl⟩ := hrel
      have HD := Lib.hid hd; clear hd
      by_cases hlt : k < n
      · obtain ⟨ad, x, rfl, hb, hx, hc, hf⟩ := h.at_ hlt
        obtain ⟨bd, y, rfl, hb', hy, hc', hf'⟩ := g.at_ hlt
        have H := Lib.hid hx; clear hx
        have G := Lib.hid hy; clear hy
        by_cases hxy : x = y
        · subst hxy
          go_wp2
          go_quiet (fail)
          go_wp2
          go_roundw
          case rel => exact ⟨k + 1, by omega, by go_num, take_same H.out G.out HD.out, _, rfl⟩
          case measure => simp [intOf]; omega
        · have HX := Lib.hid (ne_of_at H.out G.out hxy)
          have hb : (x != y) = true := by simpa using hxy
          go_wp2
          go_quiet (fail)
          go_wp2
          go_ret
          exact ⟨ret_bool HX.out.symm, _, World.drewN_drewN _ _ _⟩
      · have HX := Lib.hid (eq_of_take H1.out H2.out (by omega) HD.out)
        go_wp2
        go_ret
        exact ⟨ret_bool HX.out.symm, _, rfl⟩
  · have HX := Lib.hid (p := (xs == ys) = false) (by rw [beq_eq_false_iff_ne]; rintro rfl; exact hnm (hn.symm.trans hm))
    have H1 := Lib.hid hn; clear hn
    have H2 := Lib.hid hm; clear hm
    have hb : ((n : Int) != (m : Int)) = true := by simp; omega
    go_enter Try.func12, Try.ntmps12
    go_wp2
    go_ret
    exact ⟨ret_bool HX.out.symm, 0, rfl⟩
theorem bookSame9_eq {w : World} {A B : Option Addr} {n c m d : Nat} {xs : List Int} (h : Ints w A n xs) (g : Ints w B m xs) :
    Calls Try.prog 12 #[.slice A n c, .slice B m d] w fun e w' => e = .returned (.bool true) ∧ ∃ k, w' = w.drewN k :=
  (bookSame9_any h g).mono fun _ _ ⟨he, hw⟩ => ⟨by rw [he]; simp, hw⟩
set_option maxRecDepth 100000 in
set_option maxHeartbeats 400000 in
theorem l9runes_eq {w : World} {A B : Option Addr} {n c m d : Nat} {xs : List Int} (h : IntsR w A n xs) (g : IntsR w B m xs) :
    Calls Try.prog 19 #[.slice A n c, .slice B m d] w fun e w' => e = .returned (.bool true) ∧ ∃ k, w' = w.drewN k := by
  obtain rfl : n = m := h.len.symm.trans g.len
  have hle := h.le
  go_enter Try.func19, Try.ntmps19
  go_wp2
  go_loopw [13] (fun i wr => ∃ k : Nat, k ≤ n ∧ i = .int .i64 k ∧ ∃ q, wr = w.drewN q) (fun i _ => n - (intOf i).toNat)
  case atStart => exact ⟨0, Nat.zero_le _, rfl, 0, rfl⟩
  case round =>
    obtain ⟨k, hk, rfl, q, rfl⟩ := hrel
    by_cases hlt : k < n
    · obtain ⟨ad, x, rfl, hb, hx, hc, hf⟩ := h.at_ hlt
      obtain ⟨bd, y, rfl, hb', hy, hc', hf'⟩ := g.at_ hlt
      obtain rfl : x = y := by rw [hx] at hy; injection hy
      clear hx hy
      go_wp2
      go_quiet (fail)
      go_wp2
      go_roundw
      case rel => exact ⟨k + 1, by omega, by go_num, _, rfl⟩
      case measure => simp [intOf]; omega
    · go_wp2
      go_ret
      exact ⟨rfl, _, rfl⟩
set_option maxRecDepth 100000 in
set_option maxHeartbeats 6400000 in
theorem l9same_any {w : World} {s t : ByteArray} {A : Option Addr} {n c : Nat} {spec : List Int} (rank r : Int) (hs : s.size ≤ 17592186044000) (ht : t.size ≤ 17592186044000) (hA : Ints w A n spec) (hn : n ≤ 17592186044000) :
    Calls Try.prog 7 #[.string s, .string t, .int .i64 rank, .slice A n c, .int .i32 r] w fun e w' => e = .returned (.bool true) ∧ Below w.heap.size w w' := by
  have C1 := nNote_any (w := w) rank hs ht
  have C2 := fun w : World => ref9Note_any (w := w) rank hs ht
  have C4 := fun w : World => nRight_any (w := w) rank hs
  have C5 := fun w : World => ref9Right_any (w := w) rank hs
  have C6 := fun w : World => nFind_any (w := w) r hs
  have C7 := fun w : World => ref9Find_any (w := w) r hs
  have C8 := fun (w : World) (h : Ints w A n spec) => nText_any (w := w) (c := c) hs h hn
  have C9 := fun (w : World) (h : Ints w A n spec) => ref9Text_any (w := w) (c := c) hs h hn
  have C10 := fun w : World => nRunes_any w t ht
  have C11 := fun w : World => refRunes_any w t ht
  generalize noteR (runesOf s) (runesOf t) rank = N at *
  generalize rightB (runesOf s) rank = R at *
  generalize findF (runesOf s) r = F at *
  generalize textF (runesOf s) spec = T at *
  have k1 : (N.2.1 == N.2.1) = true := by simp
  have k2 : (N.2.2 == N.2.2) = true := by simp
  have k3 : (R == R) = true := by simp
  have k4 : (F == F) = true := by simp
  have k5 : (T.toList == T.toList) = true := by simp
  have HA := Lib.hid hA
  clear hA hn hs ht
  go_enter Try.func7, Try.ntmps7
  go_wp2_with fail
  refine C1.mono ?_; rintro e1 w1 ⟨⟨v1, m1, rfl, hO1⟩, hb1⟩
  obtain ⟨A1, c1, rfl, _, hI1, _⟩ := hO1.form
  have I1 := Lib.hid hI1
  have HB := Lib.hid hb1
  clear C1 hO1 hI1 hb1
  go_wp2_with fail
  refine (C2 w1).mono ?_; rintro e2 w2 ⟨⟨v2, m2, rfl, hO2⟩, hb2⟩
  obtain ⟨A2, c2, rfl, _, hI2, _⟩ := hO2.form
  replace I1 := Lib.hid (I1.out.below hb2)
  have I2 := Lib.hid hI2
  replace HB := Lib.hid (then_ HB.out hb2)
  clear C2 hO2 hI2 hb2
  go_wp2_with fail
  refine (bookSame9_eq I1.out I2.out).mono ?_; rintro e3 w3 ⟨rfl, q, rfl⟩
  replace HB := Lib.hid (then_drew HB.out q)
  clear I1 I2
  go_wp2_with fail
  refine (C4 _).mono ?_; rintro e4 w4 ⟨rfl, hb⟩
  replace HB := Lib.hid (then_ HB.out hb)
  clear C4 hb
  go_wp2_with fail
  refine (C5 _).mono ?_; rintro e5 w5 ⟨rfl, hb⟩
  replace HB := Lib.hid (then_ HB.out hb)
  clear C5 hb
  go_wp2_with fail
  refine (C6 _).mono ?_; rintro e6 w6 ⟨rfl, hb⟩
  replace HB := Lib.hid (then_ HB.out hb)
  clear C6 hb
  go_wp2_with fail
  refine (C7 _).mono ?_; rintro e7 w7 ⟨rfl, hb⟩
  replace HB := Lib.hid (then_ HB.out hb)
  clear C7 hb
  go_wp2_with fail
  refine (C8 _ (HA.out.below HB.out)).mono ?_; rintro e8 w8 ⟨rfl, hb⟩
  replace HB := Lib.hid (then_ HB.out hb)
  clear C8 hb
  go_wp2_with fail
  refine (C9 _ (HA.out.below HB.out)).mono ?_; rintro e9 w9 ⟨rfl, hb⟩
  replace HB := Lib.hid (then_ HB.out hb)
  clear C9 hb
  go_wp2_with fail
  refine (C10 _).mono ?_; rintro e10 w10 ⟨⟨v1, m1, rfl, hO1⟩, hb⟩
  obtain ⟨A1, c1, rfl, _, hI1, _⟩ := hO1.form
  have I1 := Lib.hid hI1
  replace HB := Lib.hid (then_ HB.out hb)
  clear C10 hO1 hI1 hb
  go_wp2_with fail
  refine (C11 _).mono ?_; rintro e11 w11 ⟨⟨v2, m2, rfl, hO2⟩, hb⟩
  obtain ⟨A2, c2, rfl, _, hI2, _⟩ := hO2.form
  replace I1 := Lib.hid (I1.out.below hb)
  have I2 := Lib.hid hI2
  replace HB := Lib.hid (then_ HB.out hb)
  clear C11 hO2 hI2 hb
  go_wp2_with fail
  refine (l9runes_eq I1.out I2.out).mono ?_; rintro e12 w12 ⟨rfl, q', rfl⟩
  replace HB := Lib.hid (then_drew HB.out q')
  go_wp2
  go_ret
  exact ⟨rfl, HB.out⟩
end Go.Proofs.Ytpceebpihojdcaa
