/- The tape's call Number. -/
import Derived.Test.YtiigbkjkmfjhcaaTape
namespace Go.Proofs.Ytiigbkjkmfjhcaa
open Go.RowKit

def numberLits : List Int := [9223372036854775807, -9223372036854775808, 4611686018427387904, -1099511627776, 8589934592, 3037000500]
theorem lits_at (r : Nat) (h : r < 6) : ∃ x : Int, numberLits[r]? = some x ∧ Fits x := by
  have : r = 0 ∨ r = 1 ∨ r = 2 ∨ r = 3 ∨ r = 4 ∨ r = 5 := by omega
  rcases this with rfl | rfl | rfl | rfl | rfl | rfl <;> exact ⟨_, rfl, by constructor <;> decide⟩

set_option maxRecDepth 100000 in
set_option maxHeartbeats 800000 in
theorem number_any {w : World} {g : Nat} (h : Tape w g) :
    Calls Try.prog 20 #[.pointer (some ⟨g, 0, none⟩)] w fun e w' => (∃ r : Int, e = .returned (.int .i64 r) ∧ Fits r) ∧ Read w g w' := by
  go_enter Try.func20, Try.ntmps20
  go_wp2_with fail
  refine (next_any 9 h ⟨by omega, by omega⟩).mono ?_; rintro e w1 ⟨⟨r, rfl, hr0, hr1⟩, hT, hG⟩
  have HG := Lib.hid hG
  clear hG h
  by_cases h0 : r = 0
  · subst h0
    go_wp2_with fail
    have hlit : Ints (w1.alloc (.cells #[.int .i64 9223372036854775807, .int .i64 (-9223372036854775808), .int .i64 4611686018427387904, .int .i64 (-1099511627776), .int .i64 8589934592, .int .i64 3037000500] 2)) (some ⟨w1.heap.size, 0, none⟩) 6 numberLits := ints_lit _ _ _ _ _ _ rfl rfl (by decide)
    refine (next_any 6 (hT.below ((Below.refl _ _).alloc (Nat.le_refl _) _)) ⟨by omega, by omega⟩).mono ?_; rintro e w2 ⟨⟨r, rfl, hr0, hr1⟩, hT2, hG2⟩
    obtain ⟨rn, rfl⟩ := Int.eq_ofNat_of_zero_le hr0
    obtain ⟨x, hxr, hf⟩ := lits_at rn (by omega)
    have hgr := hT.lt
    have hlit2 := hlit.grown hG2 (fun ad e _ => by injection e with e; subst e; intro h'; injection h' with h'; simp at h'; omega)
    have hc := hlit2.get hxr
    rw [Addr.add_lit, Nat.zero_add] at hc
    have hrn : rn < 6 := by omega
    have HR := Lib.hid hxr
    have HGb := Lib.hid (grown_trans HG.out (grown_trans (World.grownBy_alloc w1 _ _) hG2))
    clear hlit hlit2 hG2 hxr hr0 hr1 HG
    go_wp2
    go_ret
    exact ⟨⟨x, rfl, hf⟩, hT2, HGb.out⟩
  · have hb0 : (r == 0) = false := by simpa using h0
    by_cases h1 : r = 1
    · subst h1
      go_wp2
      go_ret
      exact ⟨⟨0, rfl, by omega, by omega⟩, hT, HG.out⟩
    · have hb1 : (r == 1) = false := by simpa using h1
      go_wp2_with fail
      refine (next_any 19 hT ⟨by omega, by omega⟩).mono ?_; rintro e w2 ⟨⟨q, rfl, hq0, hq1⟩, hT2, hG2⟩
      have HGb := Lib.hid (grown_trans HG.out hG2)
      have hq2 : q < 19 := by omega
      clear hG2 hq1
      go_wp2
      go_ret
      exact ⟨⟨_, rfl, by omega, by omega⟩, hT2, HGb.out⟩
end Go.Proofs.Ytiigbkjkmfjhcaa
