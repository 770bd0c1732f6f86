/- The walk of MeshTells. -/
import Derived.Test.YthhfjbhopenchaaL14Meshes
namespace Go.Proofs.Ythhfjbhopenchaa
open Go.RowKit

theorem within14_any (a : Int) (n : Nat) (w : World) (hf : Fits a) (hn : n ≤ 1000000) :
    Calls Try.prog 11 #[.int .i64 a, .int .i64 0, .int .i64 n] w fun e w' => (∃ m : Nat, e = .returned (.int .i64 m) ∧ m ≤ n) ∧ w = w' := by
  obtain ⟨h1, h2⟩ := hf
  have hnz : ((n : Int) + 1) ≠ 0 := by omega
  by_cases h0 : 0 ≤ a
  · obtain ⟨b, rfl⟩ := Int.eq_ofNat_of_zero_le h0
    by_cases hb : b ≤ n
    · go_enter Try.func11, Try.ntmps11
      go_wp2
      go_ret
      exact ⟨⟨b, rfl, hb⟩, rfl⟩
    · have hw1 := Int.emod_nonneg (b : Int) hnz
      have hw2 := Int.emod_lt_of_pos (b : Int) (show (0 : Int) < (n : Int) + 1 by omega)
      have hz : decide ((b : Int) % ((n : Int) + 1) < 0) = false := decide_eq_false (by omega)
      go_enter Try.func11, Try.ntmps11
      go_wp2
      go_ret
      exact ⟨⟨((b : Int) % ((n : Int) + 1)).toNat, by rw [Int.toNat_of_nonneg hw1]; go_num, by omega⟩, rfl⟩
  · have hlt : a < 0 := by omega
    have hq := Int.emod_nonneg (-a) hnz
    have hq2 := Int.emod_lt_of_pos (-a) (show (0 : Int) < (n : Int) + 1 by omega)
    have hm : a.tmod ((n : Int) + 1) = -((-a) % ((n : Int) + 1)) := by
      have e : a = -(-a) := by omega
      rw [e, Int.neg_tmod, Int.tmod_eq_emod_of_nonneg (by omega : 0 ≤ -a), Int.neg_neg]
    have hm1 : -((n : Int) + 1) < a.tmod ((n : Int) + 1) := by omega
    have hm2 : a.tmod ((n : Int) + 1) ≤ 0 := by omega
    clear hq hq2 hm
    by_cases ht : a.tmod ((n : Int) + 1) < 0
    · go_enter Try.func11, Try.ntmps11
      go_wp2
      go_ret
      exact ⟨⟨(a.tmod ((n : Int) + 1) + n + 1).toNat, by rw [Int.toNat_of_nonneg (by omega)]; go_num, by omega⟩, rfl⟩
    · go_enter Try.func11, Try.ntmps11
      go_wp2
      go_ret
      exact ⟨⟨0, by simp [show a.tmod ((n : Int) + 1) = 0 by omega], by omega⟩, rfl⟩
theorem and14_7 (n : Int) : bits .and .i64 n 7 = n % 8 := by
  have h7 : (BitVec.ofInt 64 7).toNat = 2 ^ 3 - 1 := by decide
  have key : (BitVec.ofInt 64 n &&& BitVec.ofInt 64 7).toNat = (n % ((2 ^ 64 : Nat) : Int)).toNat % 2 ^ 3 := by
    rw [BitVec.toNat_and, BitVec.toNat_ofInt, h7, Nat.and_two_pow_sub_one_eq_mod]
  show IntKind.i64.wrap ((BitVec.ofInt 64 n &&& BitVec.ofInt 64 7).toNat : Nat) = n % 8
  rw [key, IntKind.wrap_i64]
  omega
theorem and14_3 (n : Int) : bits .and .i64 n 3 = n % 4 := by
  have h7 : (BitVec.ofInt 64 3).toNat = 2 ^ 2 - 1 := by decide
  have key : (BitVec.ofInt 64 n &&& BitVec.ofInt 64 3).toNat = (n % ((2 ^ 64 : Nat) : Int)).toNat % 2 ^ 2 := by
    rw [BitVec.toNat_and, BitVec.toNat_ofInt, h7, Nat.and_two_pow_sub_one_eq_mod]
  show IntKind.i64.wrap ((BitVec.ofInt 64 n &&& BitVec.ofInt 64 3).toNat : Nat) = n % 4
  rw [key, IntKind.wrap_i64]
  omega
set_option maxRecDepth 100000 in
set_option maxHeartbeats 6400000 in
theorem tells14_walk {w : World} {A B : Option Addr} {n c m q : Nat} {s t : List Int} {p d a b : Int} (hp : Fits p) (hI : Ints w A n s) (hJ : Ints w B m t) (hd : Fits d) (ha : Fits a) (hb : Fits b) (hac : n ≤ c) :
    Calls Try.prog 4 #[.int .i64 p, .slice A n c, .slice B m q, .int .i64 d, .int .i64 a, .int .i64 b] w fun e w' => e = .returned (.bool true) ∧ Below w.heap.size w w' := by
  have HI := Lib.hid hI
  have HJ := Lib.hid hJ
  have HD := Lib.hid hd
  have HA := Lib.hid ha
  have HBB := Lib.hid hb
  have HP := Lib.hid hp
  clear hI hJ hd ha hb hp
  go_enter Try.func4, Try.ntmps4
  go_wp2_with fail
  refine (l14meshes_any w).mono ?_; rintro e1 w1 ⟨⟨v, rfl, g, rfl, hg, hM⟩, hb1⟩
  have HB1 := Lib.hid hb1
  have HM := Lib.hid hM
  clear hM hb1 hg
  go_wp2_with fail
  refine (within14_any p 10 w1 HP.out (by omega)).mono ?_; rintro e2 w2 ⟨⟨k, rfl, hk⟩, rfl⟩
  obtain ⟨s0, hs0⟩ : ∃ x, meshes14[k]? = some x := ⟨_, List.getElem?_eq_getElem (by show k < 11; omega)⟩
  obtain ⟨C0, c0, hc0, hcc, hI0⟩ := HM.out k s0 hs0
  have HI0 := Lib.hid hI0
  have f7 := and14_7 d
  have f3 := and14_3 a
  have hd7 : Hid (Fits (d % 8)) := Lib.hid ⟨by omega, by omega⟩
  have ha3 : Hid (Fits (a % 4)) := Lib.hid ⟨by omega, by omega⟩
  clear hs0 hI0 HM
  go_wp2_with fail
  refine (l14same_any (c := c0) (q := q) HI0.out (HJ.out.below HB1.out) hd7.out ha3.out HBB.out).mono ?_; rintro e3 w3 ⟨rfl, hb3⟩
  have HB3 := Lib.hid (then_ HB1.out hb3)
  have HI3 := Lib.hid (HI0.out.below hb3)
  clear hb3 hc0 HI0
  go_wp2_with fail
  refine (l14same_any (c := c0) (q := q) HI3.out (HJ.out.below HB3.out) HD.out HA.out HBB.out).mono ?_; rintro e4 w4 ⟨rfl, hb4⟩
  have HB4 := Lib.hid (then_ HB3.out hb4)
  clear hb4
  go_wp2_with fail
  refine (l14same_any (c := c) (q := q) (HI.out.below HB4.out) (HJ.out.below HB4.out) HD.out HA.out HBB.out).mono ?_; rintro e5 w5 ⟨rfl, hb5⟩
  have HB5 := Lib.hid (then_ HB4.out hb5)
  clear hb5
  go_wp2_with fail
  refine (l14known_any w5).mono ?_; rintro e6 w6 ⟨rfl, hb6⟩
  have HB6 := Lib.hid (then_ HB5.out hb6)
  clear hb6
  go_wp2
  go_ret
  exact ⟨by trivial, HB6.out⟩
end Go.Proofs.Ythhfjbhopenchaa
