/- The walk of NamesTells. -/
import Derived.Test.YtpceebpihojdcaaL9Known
namespace Go.Proofs.Ytpceebpihojdcaa
open Go.RowKit

theorem small9 {s : ByteArray} (n : Nat) (hn : n ≤ 17592186044000) : (s.extract 0 n).size ≤ 17592186044000 := by
  rw [ByteArray.size_extract]; omega
set_option maxRecDepth 100000 in
set_option maxHeartbeats 6400000 in
theorem tells9_walk {w : World} {s t : ByteArray} {A : Option Addr} {n c : Nat} {spec : List Int} (rank r : Int) (hs : s.size ≤ 9223372036854775807) (ht : t.size ≤ 9223372036854775807) (hA : Ints w A n spec) (hn : n ≤ 17592186044000) :
    Calls Try.prog 4 #[.string s, .string t, .int .i64 rank, .slice A n c, .int .i32 r] w fun e w' => e = .returned (.bool true) ∧ Below w.heap.size w w' := by
  have HA := Lib.hid hA
  have HN := Lib.hid hn
  clear hA hn
  go_enter Try.func4, Try.ntmps4
  by_cases hS : 30 < s.size
  · by_cases hT : 60 < t.size
    · go_wp2_with fail
      refine (l9same_any (spec := spec) _ _ (small9 30 (by omega)) (small9 60 (by omega)) HA.out HN.out).mono ?_; rintro e1 w1 ⟨rfl, hb⟩
      have HB := Lib.hid hb
      replace HA := Lib.hid (HA.out.below hb)
      clear hb
      go_wp2_with fail
      refine (l9same_any (spec := spec) _ _ (small9 30 (by omega)) (small9 60 (by omega)) HA.out HN.out).mono ?_; rintro e2 w2 ⟨rfl, hb⟩
      replace HB := Lib.hid (then_ HB.out hb)
      replace HA := Lib.hid (HA.out.below hb)
      clear hb
      go_wp2_with fail
      refine (l9same_any (spec := spec) _ _ (by decide) (small9 60 (by omega)) HA.out HN.out).mono ?_; rintro e3 w3 ⟨rfl, hb⟩
      replace HB := Lib.hid (then_ HB.out hb)
      replace HA := Lib.hid (HA.out.below hb)
      clear hb
      go_wp2_with fail
      refine (l9same_any (spec := []) _ _ (small9 30 (by omega)) (small9 30 (by omega)) (Ints.nil_ _ none) (by omega)).mono ?_; rintro e4 w4 ⟨rfl, hb⟩
      replace HB := Lib.hid (then_ HB.out hb)
      clear hb
      go_wp2_with fail
      refine (l9known_any _).mono ?_; rintro e5 w5 ⟨rfl, hb⟩
      replace HB := Lib.hid (then_ HB.out hb)
      clear hb
      go_wp2
      go_ret
      exact ⟨rfl, HB.out⟩
    · go_wp2_with fail
      refine (l9same_any (spec := spec) _ _ (small9 30 (by omega)) (by omega) HA.out HN.out).mono ?_; rintro e1 w1 ⟨rfl, hb⟩
      have HB := Lib.hid hb
      replace HA := Lib.hid (HA.out.below hb)
      clear hb
      go_wp2_with fail
      refine (l9same_any (spec := spec) _ _ (small9 30 (by omega)) (by omega) HA.out HN.out).mono ?_; rintro e2 w2 ⟨rfl, hb⟩
      replace HB := Lib.hid (then_ HB.out hb)
      replace HA := Lib.hid (HA.out.below hb)
      clear hb
      go_wp2_with fail
      refine (l9same_any (spec := spec) _ _ (by decide) (by omega) HA.out HN.out).mono ?_; rintro e3 w3 ⟨rfl, hb⟩
      replace HB := Lib.hid (then_ HB.out hb)
      replace HA := Lib.hid (HA.out.below hb)
      clear hb
      go_wp2_with fail
      refine (l9same_any (spec := []) _ _ (small9 30 (by omega)) (small9 30 (by omega)) (Ints.nil_ _ none) (by omega)).mono ?_; rintro e4 w4 ⟨rfl, hb⟩
      replace HB := Lib.hid (then_ HB.out hb)
      clear hb
      go_wp2_with fail
      refine (l9known_any _).mono ?_; rintro e5 w5 ⟨rfl, hb⟩
      replace HB := Lib.hid (then_ HB.out hb)
      clear hb
      go_wp2
      go_ret
      exact ⟨rfl, HB.out⟩
  · by_cases hT : 60 < t.size
    · go_wp2_with fail
      refine (l9same_any (spec := spec) _ _ (by omega) (small9 60 (by omega)) HA.out HN.out).mono ?_; rintro e1 w1 ⟨rfl, hb⟩
      have HB := Lib.hid hb
      replace HA := Lib.hid (HA.out.below hb)
      clear hb
      go_wp2_with fail
      refine (l9same_any (spec := spec) _ _ (by omega) (small9 60 (by omega)) HA.out HN.out).mono ?_; rintro e2 w2 ⟨rfl, hb⟩
      replace HB := Lib.hid (then_ HB.out hb)
      replace HA := Lib.hid (HA.out.below hb)
      clear hb
      go_wp2_with fail
      refine (l9same_any (spec := spec) _ _ (by decide) (small9 60 (by omega)) HA.out HN.out).mono ?_; rintro e3 w3 ⟨rfl, hb⟩
      replace HB := Lib.hid (then_ HB.out hb)
      replace HA := Lib.hid (HA.out.below hb)
      clear hb
      go_wp2_with fail
      refine (l9same_any (spec := []) _ _ (by omega) (by omega) (Ints.nil_ _ none) (by omega)).mono ?_; rintro e4 w4 ⟨rfl, hb⟩
      replace HB := Lib.hid (then_ HB.out hb)
      clear hb
      go_wp2_with fail
      refine (l9known_any _).mono ?_; rintro e5 w5 ⟨rfl, hb⟩
      replace HB := Lib.hid (then_ HB.out hb)
      clear hb
      go_wp2
      go_ret
      exact ⟨rfl, HB.out⟩
    · go_wp2_with fail
      refine (l9same_any (spec := spec) _ _ (by omega) (by omega) HA.out HN.out).mono ?_; rintro e1 w1 ⟨rfl, hb⟩
      have HB := Lib.hid hb
      replace HA := Lib.hid (HA.out.below hb)
      clear hb
      go_wp2_with fail
      refine (l9same_any (spec := spec) _ _ (by omega) (by omega) HA.out HN.out).mono ?_; rintro e2 w2 ⟨rfl, hb⟩
      replace HB := Lib.hid (then_ HB.out hb)
      replace HA := Lib.hid (HA.out.below hb)
      clear hb
      go_wp2_with fail
      refine (l9same_any (spec := spec) _ _ (by decide) (by omega) HA.out HN.out).mono ?_; rintro e3 w3 ⟨rfl, hb⟩
      replace HB := Lib.hid (then_ HB.out hb)
      replace HA := Lib.hid (HA.out.below hb)
      clear hb
      go_wp2_with fail
      refine (l9same_any (spec := []) _ _ (by omega) (by omega) (Ints.nil_ _ none) (by omega)).mono ?_; rintro e4 w4 ⟨rfl, hb⟩
      replace HB := Lib.hid (then_ HB.out hb)
      clear hb
      go_wp2_with fail
      refine (l9known_any _).mono ?_; rintro e5 w5 ⟨rfl, hb⟩
      replace HB := Lib.hid (then_ HB.out hb)
      clear hb
      go_wp2
      go_ret
      exact ⟨rfl, HB.out⟩
end Go.Proofs.Ytpceebpihojdcaa
