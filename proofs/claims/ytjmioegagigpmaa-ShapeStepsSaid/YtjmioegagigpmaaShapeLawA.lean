/- ShapeTells: the walk. -/
import Derived.Test.YtjmioegagigpmaaShapeG
import Derived.Test.YtjmioegagigpmaaTapeB
import Derived.OpenShut
namespace Go.Proofs.Ytjmioegagigpmaa
open Go.RowKit

theorem fits_bits (op : BinOp) (x y : Int) : Fits (bits op .i64 x y) := bounds_i64 (wf_bits op .i64 x y)

/-- A new tape over a list that came in. -/
theorem tape_new {w : World} {A : Option Addr} {n c : Nat} {xs : List Int} (h : Ints w A n xs) :
    Tape (w.alloc (.cells #[.slice A n c, .int .i64 0] 29)) w.heap.size := by
  refine ⟨A, n, c, 0, xs, heap_alloc_new w _, by omega, h.alloc _, fun ad he hn => ?_⟩
  obtain ⟨ad', he', hb, _⟩ := h.2.2.2 hn
  rw [he] at he'
  injection he' with he'
  subst he'
  exact hb

theorem Ints.read {w w' : World} {g : Nat} {A : Option Addr} {n : Nat} {xs : List Int} (h : Ints w A n xs) (hr : w.grownBy w' (some g)) (hA : ∀ ad, A = some ad → ad.block ≠ g) : Ints w' A n xs :=
  h.grown hr fun ad e _ he => hA ad e (by injection he)

set_option maxHeartbeats 1600000 in
theorem tells_walk {w : World} {A0 A1 A2 : Option Addr} {n0 c0 n1 c1 n2 c2 : Nat} {x0 x1 x2 : List Int} (i : Int) (h0 : Ints w A0 n0 x0) (h1 : Ints w A1 n1 x1) (h2 : Ints w A2 n2 x2) (hi : Fits i) :
    Calls Try.prog 4 #[.slice A0 n0 c0, .slice A1 n1 c1, .slice A2 n2 c2, .int .i64 i] w fun e w' => e = .returned (.bool true) ∧ Below w.heap.size w w' := by
  have hT := tape_new (c := c0) h0
  have hB : Below w.heap.size w (w.alloc (.cells #[.slice A0 n0 c0, .int .i64 0] 29)) := (Below.refl _ _).alloc (Nat.le_refl _) _
  have hz : (w.alloc (.cells #[.slice A0 n0 c0, .int .i64 0] 29)).heap.size = w.heap.size + 1 := by simp
  go_enter Try.func4, Try.ntmps4
  go_wp2_with fail
  generalize w.alloc (.cells #[.slice A0 n0 c0, .int .i64 0] 29) = wa at *
  refine (tapeShape_any hT).mono ?_; rintro e w1 ⟨⟨v, n, xs, rfl, hO, hn3, hx⟩, hT1, hG1⟩
  obtain ⟨A, c, rfl, hc, hI, hA⟩ := hO.form
  have hB1 := below_of_grown hB (by omega) hG1 (Nat.le_refl _)
  have hAne : ∀ ad, A = some ad → ad.block ≠ w.heap.size := fun ad he => by have := hA ad he; omega
  have hgl := hT1.lt
  have HB1 := Lib.hid hB1
  have HX := Lib.hid hx
  have HAN := Lib.hid hAne
  clear hB hT hG1 hB1 hO hx hA hAne hz
  go_wp2_with fail
  go_loopw [11, 21] (fun p k wr => ∃ (j : Nat) (ps : List Int), j ≤ n ∧ k = .int .i64 j ∧ OwnS wr w1.heap.size 3 p j ps ∧ Tape wr w.heap.size ∧ w1.grownBy wr (some w.heap.size)) (fun _ k _ => n - (intOf k).toNat)
  case atStart => exact ⟨0, [], by omega, rfl, OwnS.nil_ _ _ _, hT1, World.grownBy.refl _ _⟩
  case round =>
    clear hT1
    obtain ⟨j, ps, hj, rfl, hP, hT, hG⟩ := hrel
    have hsz := hG.size
    by_cases hlt : j < n
    · have hI2 := hI.read hG HAN.out
      obtain ⟨ad, x, rfl, hb, hx, hcx, hf⟩ := hI2.at_ hlt
      have hx7 := HX.out x (List.mem_of_getElem? hx)
      obtain ⟨hx0, hx7⟩ := hx7
      have HXX := Lib.hid hx
      have HG := Lib.hid hG
      clear hx hG
      go_wp2_with fail
      refine (next_any (x + 1) hT ⟨by omega, by omega⟩).mono ?_; rintro e w2 ⟨⟨r, rfl, hr0, hr1⟩, hT2, hG2⟩
      have hP2 := hP.grown hG2 hgl
      have hG3 := grown_trans HG.out hG2
      have hs3 := hG3.size
      have HP := Lib.hid hP2
      have HG3 := Lib.hid hG3
      clear hP hP2 hG2 hG3 hI2 hcx
      go_wp2_with (at_builtin; refine wpList_append_int rfl _ _ 22 3 rfl Try.underlying22 Try.infoI w1.heap.size _ j ps rfl HP.out ?c1 r ?c2 _ rfl ?c3 ?_)
      case c1 => omega
      case c2 => exact ⟨by omega, by omega⟩
      case c3 => omega
      intro v' w3 hO4 hB4 hg4
      have hT4 := hT2.over (hB4.mono (by omega))
      have hG4 := grown_over HG3.out hB4
      clear hB4 hg4
      go_wp2
      go_roundw
      case rel => exact ⟨j + 1, _, by omega, by go_num, hO4, hT4, hG4⟩
      case measure => simp [intOf]; omega
    · obtain rfl : j = n := by omega
      obtain ⟨P, d, rfl, hd, hJ, hPb⟩ := hP.form
      have hI2 := hI.read hG HAN.out
      have hB2 := below_of_grown HB1.out HB1.out.size hG (Nat.le_refl _)
      have HB := Lib.hid hB2
      clear hP hT hG hB2 hI
      go_wp2_with fail
      refine (lawSame_any _ hI2 hJ (fits_bits _ _ _)).mono ?_; rintro e w4 ⟨rfl, hb4⟩
      have HB4 := Lib.hid (then_ HB.out hb4)
      have hI4 := hI2.below hb4
      clear hb4 hI2 hJ
      go_wp2_with fail
      refine (lawSame_any _ (h1.below HB4.out) (h2.below HB4.out) hi).mono ?_; rintro e w5 ⟨rfl, hb5⟩
      have HB5 := Lib.hid (then_ HB4.out hb5)
      have hI5 := hI4.below hb5
      clear hb5 hI4
      go_wp2_with fail
      refine (lawSame_any _ hI5 (h2.below HB5.out) hi).mono ?_; rintro e w6 ⟨rfl, hb6⟩
      have HB6 := Lib.hid (then_ HB5.out hb6)
      clear hb6 hI5
      go_wp2_with fail
      refine (known_any _).mono ?_; rintro e w7 ⟨rfl, hb7⟩
      have HB7 := Lib.hid (then_ HB6.out hb7)
      clear hb7
      go_wp2
      go_ret
      exact ⟨rfl, HB7.out⟩
end Go.Proofs.Ytjmioegagigpmaa
