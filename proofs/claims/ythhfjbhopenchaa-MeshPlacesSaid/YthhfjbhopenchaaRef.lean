/- Contracts of the reference's and the book's functions on shapes. -/
import Derived.Test.YthhfjbhopenchaaRows
import Derived.Test.YthhfjbhopenchaaShape
import Derived.Test.YthhfjbhopenchaaKit
import Derived.Test.YthhfjbhopenchaaShapeMath
namespace Go.Proofs.Ythhfjbhopenchaa
open Go.RowKit





set_option maxRecDepth 100000 in
set_option maxHeartbeats 400000 in
theorem bookSame_any {w : World} {A B : Option Addr} {n c m d : Nat} {xs ys : List Int} (h : Ints w A n xs) (g : Ints w B m ys) :
    Calls Try.prog 17 #[.slice A n c, .slice B m d] w fun e w' => e = .returned (.bool (xs == ys)) ∧ ∃ k, w' = w.drewN k := by
  have hn := h.len
  have hm := g.len
  have hle := h.le
  have hme := g.le
  by_cases hnm : n = m
  · subst hnm
    have H1 := Lib.hid hn; clear hn
    have H2 := Lib.hid hm; clear hm
    go_enter Try.func17, Try.ntmps17
    go_wp2
    go_loopw [5] (fun i wr => ∃ k : Nat, k ≤ n ∧ i = .int .i64 k ∧ xs.take k = ys.take k ∧ ∃ q, wr = w.drewN q) (fun i _ => n - (intOf i).toNat)
    case atStart => exact ⟨0, Nat.zero_le _, rfl, rfl, 0, rfl⟩
    case round =>
      obtain ⟨k, hk, rfl, hd, q, rfl⟩ := hrel
      have HD := Lib.hid hd; clear hd
      by_cases hlt : k < n
      · obtain ⟨ad, x, rfl, hb, hx, hc, hf⟩ := h.at_ hlt
        obtain ⟨bd, y, rfl, hb', hy, hc', hf'⟩ := g.at_ hlt
        have H := Lib.hid hx; clear hx
        have G := Lib.hid hy; clear hy
        by_cases hxy : x = y
        · subst hxy
          go_wp2
          go_quiet (fail)
          go_wp2
          go_roundw
          case rel => exact ⟨k + 1, by omega, by go_num, take_same H.out G.out HD.out, _, rfl⟩
          case measure => simp [intOf]; omega
        · have HX := Lib.hid (ne_of_at H.out G.out hxy)
          have hb : (x != y) = true := by simpa using hxy
          go_wp2
          go_quiet (fail)
          go_wp2
          go_ret
          exact ⟨ret_bool HX.out.symm, _, World.drewN_drewN _ _ _⟩
      · have HX := Lib.hid (eq_of_take H1.out H2.out (by omega) HD.out)
        go_wp2
        go_ret
        exact ⟨ret_bool HX.out.symm, _, rfl⟩
  · have HX := Lib.hid (p := (xs == ys) = false) (by rw [beq_eq_false_iff_ne]; rintro rfl; exact hnm (hn.symm.trans hm))
    have H1 := Lib.hid hn; clear hn
    have H2 := Lib.hid hm; clear hm
    have hb : ((n : Int) != (m : Int)) = true := by simp; omega
    go_enter Try.func17, Try.ntmps17
    go_wp2
    go_ret
    exact ⟨ret_bool HX.out.symm, 0, rfl⟩



theorem bookSame_eq {w : World} {A B : Option Addr} {n c m d : Nat} {xs : List Int} (h : Ints w A n xs) (g : Ints w B m xs) :
    Calls Try.prog 17 #[.slice A n c, .slice B m d] w fun e w' => e = .returned (.bool true) ∧ ∃ k, w' = w.drewN k :=
  (bookSame_any h g).mono fun _ _ ⟨he, hw⟩ => ⟨by rw [he]; simp, hw⟩

end Go.Proofs.Ythhfjbhopenchaa
