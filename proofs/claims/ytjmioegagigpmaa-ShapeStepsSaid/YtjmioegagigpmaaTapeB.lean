/- The tape's call Shape: a short list of small numbers. -/
import Derived.Test.YtjmioegagigpmaaTapeA
import Derived.Test.YtjmioegagigpmaaShapeMath
namespace Go.Proofs.Ytjmioegagigpmaa
open Go.RowKit

/-- What Shape draws from. -/
def shapeDims : List Int := [1, 2, 3, 4, 5, 0, 7, 2]
theorem dims_at (r : Nat) (h : r < 8) : ∃ x : Int, shapeDims[r]? = some x ∧ 0 ≤ x ∧ x ≤ 7 := by
  have : r = 0 ∨ r = 1 ∨ r = 2 ∨ r = 3 ∨ r = 4 ∨ r = 5 ∨ r = 6 ∨ r = 7 := by omega
  rcases this with rfl | rfl | rfl | rfl | rfl | rfl | rfl | rfl <;> exact ⟨_, rfl, by decide, by decide⟩

theorem Try.infoI : (Try.prog.info? 3).map (fun i => (i.zero, i.size, i.bytes)) = some (some (.int .i64 0), 1, 8) := by kernel_rfl

set_option maxHeartbeats 800000 in
theorem tapeShape_any {w : World} {g : Nat} (h : Tape w g) :
    Calls Try.prog 10 #[.pointer (some ⟨g, 0, none⟩)] w fun e w' =>
      (∃ v n xs, e = .returned v ∧ OwnS w' w.heap.size 3 v n xs ∧ n ≤ 3 ∧ ∀ x ∈ xs, 0 ≤ x ∧ x ≤ 7) ∧ Read w g w' := by
  have hgl := h.lt
  go_enter Try.func10, Try.ntmps10
  go_wp2_with fail
  refine (next_any 4 h ⟨by omega, by omega⟩).mono ?_; rintro e w1 ⟨⟨r, rfl, hr0, hr1⟩, hT, hG⟩
  have HG := Lib.hid hG; clear hG h
  go_wp2_with fail
  go_loopw [3, 4] (fun v nn wr => ∃ (j : Nat) (n : Nat) (xs : List Int), nn = .int .i64 j ∧ OwnS wr w.heap.size 3 v n xs ∧ n + j ≤ 3 ∧ (∀ x ∈ xs, 0 ≤ x ∧ x ≤ 7) ∧ Read w g wr) (fun _ nn _ => (intOf nn).toNat)
  case atStart =>
    obtain ⟨j, rfl⟩ := Int.eq_ofNat_of_zero_le hr0
    exact ⟨j, 0, [], rfl, OwnS.nil_ _ _ _, by omega, by simp, hT, HG.out⟩
  case round =>
    clear hT HG
    obtain ⟨j, n, xs, rfl, hO, hnj, hx, hT, hG⟩ := hrel
    have HX := Lib.hid hx; clear hx
    have hsz := hG.size
    by_cases hj : 0 < j
    · have HG := Lib.hid hG; clear hG
      go_wp2_with fail
      refine (next_any 8 (hT.below ((Below.refl _ _).alloc (Nat.le_refl _) _)) ⟨by omega, by omega⟩).mono ?_; rintro e w2 ⟨⟨r, rfl, hr0, hr1⟩, hT2, hG2⟩
      obtain ⟨rn, rfl⟩ := Int.eq_ofNat_of_zero_le hr0
      obtain ⟨x, hxr, hx0, hx7⟩ := dims_at rn (by omega)
      have hlit : Ints (wr.alloc (.cells #[.int .i64 1, .int .i64 2, .int .i64 3, .int .i64 4, .int .i64 5, .int .i64 0, .int .i64 7, .int .i64 2] 3)) (some ⟨wr.heap.size, 0, none⟩) 8 shapeDims := ints_lit _ _ _ _ _ _ rfl rfl (by decide)
      have hgr := hT.lt
      have hlit2 := hlit.grown hG2 (fun ad e _ => by injection e with e; subst e; intro h'; injection h' with h'; simp at h'; omega)
      have hc := hlit2.get hxr
      rw [Addr.add_lit, Nat.zero_add] at hc
      have hO2 := (hO.alloc (.cells #[.int .i64 1, .int .i64 2, .int .i64 3, .int .i64 4, .int .i64 5, .int .i64 0, .int .i64 7, .int .i64 2] 3)).grown hG2 hgl
      have hGa : wr.grownBy w2 (some g) := grown_trans (World.grownBy_alloc wr _ _) hG2
      have hGb := Lib.hid (grown_trans HG.out hGa)
      have hrn : rn < 8 := by omega
      have hs2 := hGa.size
      have HR := Lib.hid hxr
      clear hr0 hr1 hxr hlit hlit2 hG2 hGa hO hT HG
      have hO3 := Lib.hid hO2; clear hO2
      go_wp2_with (at_builtin; refine wpList_append_int rfl _ _ 22 3 rfl Try.underlying22 Try.infoI w.heap.size _ n xs rfl hO3.out ?c1 x ?c2 _ rfl ?c3 ?_)
      case c1 => omega
      case c2 => exact ⟨by omega, by omega⟩
      case c3 => omega
      intro v' w3 hO4 hB4 hg4
      have hT4 := hT2.over (hB4.mono (by omega))
      have hG4 := grown_over hGb.out hB4
      have HA := Lib.hid (p := ∀ y ∈ xs ++ [x], 0 ≤ y ∧ y ≤ 7) (by
        intro y hy
        rcases List.mem_append.1 hy with hy | hy
        · exact HX.out y hy
        · simp at hy; subst hy; exact ⟨hx0, hx7⟩)
      clear hg4 hB4
      go_wp2
      go_roundw
      case rel => exact ⟨j - 1, n + 1, _, by go_num, hO4, by omega, HA.out, hT4, hG4⟩
      case measure => simp [intOf]; omega
    · have hj0 : j = 0 := by omega
      subst hj0
      go_wp2
      go_ret
      exact ⟨⟨_, n, xs, rfl, hO, by omega, HX.out⟩, hT, hG⟩
end Go.Proofs.Ytjmioegagigpmaa
