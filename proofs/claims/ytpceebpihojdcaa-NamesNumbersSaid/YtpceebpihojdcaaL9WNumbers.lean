/- The walk of NamesNumbers. -/
import Derived.Test.YtpceebpihojdcaaL9Known
import Derived.Test.YtpceebpihojdcaaKitApp
import Derived.Deep.DeepCutAuto
namespace Go.Proofs.Ytpceebpihojdcaa
open Go.RowKit

def words9 : Array Value := #[.string ⟨#[]⟩, .string ⟨#[32]⟩, .string ⟨#[46]⟩, .string ⟨#[120]⟩, .string ⟨#[120, 121]⟩, .string ⟨#[121, 120]⟩, .string ⟨#[120, 46]⟩, .string ⟨#[46, 32, 121]⟩, .string ⟨#[120, 32, 120]⟩, .string ⟨#[195, 169, 120]⟩, .string ⟨#[195, 169, 32, 46]⟩, .string ⟨#[228, 184, 150]⟩, .string ⟨#[240, 159, 152, 128, 120]⟩, .string ⟨#[255]⟩, .string ⟨#[120, 195]⟩, .string ⟨#[97, 45, 98]⟩, .string ⟨#[40]⟩, .string ⟨#[41]⟩, .string ⟨#[0]⟩, .string ⟨#[32, 32, 120]⟩, .string ⟨#[97, 98, 99]⟩, .string ⟨#[97, 98, 99, 100]⟩, .string ⟨#[46, 46, 46, 46, 46, 46, 46, 46, 46, 46, 46, 46, 46, 46, 46, 46]⟩, .string ⟨#[46, 46, 46, 46, 46, 46, 46, 46, 46, 46, 46, 46, 46, 46, 46, 46, 46]⟩, .string ⟨#[32, 32, 32, 32, 32, 32, 32, 32, 32, 32, 32, 32, 32, 32, 32, 32, 32]⟩, .string ⟨#[239, 191, 189]⟩, .string ⟨#[194, 160, 120]⟩, .string ⟨#[194, 133]⟩]
def isWord9 (v : Option Value) : Bool := match v with | some (.string s) => decide (s.size ≤ 100) | _ => false
theorem words9_all : (List.range 28).all (fun j => isWord9 words9[j]?) = true := by decide
theorem words9_at (w : World) (t : TypeId) {j : Nat} (hj : j < 28) : ∃ s : ByteArray, s.size ≤ 100 ∧ (w.alloc (.cells words9 t)).cell? ⟨w.heap.size, j, none⟩ = some (.string s) := by
  have h := List.all_eq_true.1 words9_all j (List.mem_range.2 hj)
  rw [World.cell?_alloc_at words9 t _ j rfl]
  generalize words9[j]? = v at h
  unfold isWord9 at h
  split at h
  · exact ⟨_, of_decide_eq_true h, rfl⟩
  · simp at h
theorem quo9 {q : Int} (h : -1 ≤ q) (g : q < 18) : 0 ≤ q.tdiv 4 ∧ q.tdiv 4 ≤ 4 := by
  by_cases h0 : 0 ≤ q
  · rw [Int.tdiv_eq_ediv_of_nonneg h0]; omega
  · obtain rfl : q = -1 := by omega
    decide
set_option maxRecDepth 100000 in
set_option maxHeartbeats 6400000 in
theorem numbers9_walk (w : World) :
    Calls Try.prog 3 #[] w fun e w' => e = .returned (.bool true) ∧ Below w.heap.size w w' := by
  go_enter Try.func3, Try.ntmps3
  go_upto_region 2 with fail
  change Code.wp _ _ _ _ (w.alloc (.cells words9 9))
  have hW : ∀ j, j < 28 → ∃ s : ByteArray, s.size ≤ 100 ∧ (w.alloc (.cells words9 9)).cell? ⟨w.heap.size, j, none⟩ = some (.string s) := fun j hj => words9_at w 9 hj
  have hB := (Below.refl w.heap.size w).alloc (Nat.le_refl _) (.cells words9 9)
  have hz : w.heap.size < (w.alloc (.cells words9 9)).heap.size := by simp
  generalize w.alloc (.cells words9 9) = W at *
  have HW := Lib.hid hW
  have HB := Lib.hid hB
  have HZ := Lib.hid hz
  clear hW hB hz
  generalize w.heap.size = g at HW HZ ⊢
  go_wp2_with fail
  go_loopw [10] (fun kv wr => ∃ k : Nat, kv = .int .i64 k ∧ k ≤ 28 ∧ Below W.heap.size W wr) (fun kv _ => 28 - (intOf kv).toNat)
  case atStart => exact ⟨0, rfl, by omega, Below.refl _ _⟩
  case round =>
    obtain ⟨k, rfl, hk, hb⟩ := hrel
    obtain ⟨w1, rfl⟩ : ∃ w1 : World, w1 = wr := ⟨_, rfl⟩
    have HB1 := Lib.hid hb
    clear hb
    by_cases hlt : k < 28
    · have hd1 : decide ((k : Int) < 28) = true := by simp; omega
      obtain ⟨s, hs, hcx⟩ := HW.out k hlt
      have hcx := (HB1.out.cell HZ.out).trans hcx
      go_wp2_with fail
      clear hcx
      go_loopw [16] (fun kv wr => ∃ j : Nat, kv = .int .i64 j ∧ j ≤ 28 ∧ Below W.heap.size W wr) (fun kv _ => 28 - (intOf kv).toNat)
      case atStart => exact ⟨0, rfl, by omega, HB1.out⟩
      case round =>
        clear HB1
        obtain ⟨j, rfl, hj, hb⟩ := hrel
        obtain ⟨w2, rfl⟩ : ∃ w2 : World, w2 = wr := ⟨_, rfl⟩
        have HB2 := Lib.hid hb
        clear hb
        by_cases hlj : j < 28
        · have hd2 : decide ((j : Int) < 28) = true := by simp; omega
          obtain ⟨t, ht, hcx⟩ := HW.out j hlj
          have hcx := (HB2.out.cell HZ.out).trans hcx
          go_wp2_with fail
          clear hcx
          go_loopw [6] (fun kv wr => ∃ q : Int, kv = .int .i64 q ∧ -1 ≤ q ∧ q ≤ 40 ∧ Below W.heap.size W wr) (fun kv _ => (40 - intOf kv).toNat)
          case atStart => exact ⟨-1, rfl, by omega, by omega, HB2.out⟩
          case round =>
            clear HB2
            obtain ⟨q, rfl, hq1, hq2, hb⟩ := hrel
            obtain ⟨w3, rfl⟩ : ∃ w3 : World, w3 = wr := ⟨_, rfl⟩
            have HB3 := Lib.hid hb
            clear hb
            by_cases hlq : q < 18
            · have hd3 : decide (q < 18) = true := by simp; omega
              obtain ⟨hv0, hv4⟩ := quo9 hq1 hlq
              go_wp2_with fail
              have hl := (Below.refl w3.heap.size w3).alloc (Nat.le_refl _) (.cells #[.int .i64 q, .int .i64 0, .int .i64 (-1), .int .i64 2] 3)
              replace HB3 := Lib.hid (then_ HB3.out hl)
              clear hl
              refine (l9same_any (s := s) (t := t) q 120 (by omega) (by omega) (ints_fresh w3 3 #[.int .i64 q, .int .i64 0, .int .i64 (-1), .int .i64 2] [q, 0, -1, 2] rfl (by intro z hz; simp at hz; unfold Fits; omega) 4 rfl (by omega)) (by omega)).mono ?_; rintro e1 w4 ⟨rfl, hb⟩
              replace HB3 := Lib.hid (then_ HB3.out hb)
              clear hb
              go_wp2_with fail
              have hl := (Below.refl w4.heap.size w4).alloc (Nat.le_refl _) (.cells #[.int .i64 1099511627776, .int .i64 1] 3)
              replace HB3 := Lib.hid (then_ HB3.out hl)
              clear hl
              refine (l9same_any (s := s) (t := t) q 65533 (by omega) (by omega) (ints_lit w4 3 _ _ _ [1099511627776, 1] (by rfl) (by rfl) (by decide)) (by decide)).mono ?_; rintro e2 w5 ⟨rfl, hb⟩
              replace HB3 := Lib.hid (then_ HB3.out hb)
              clear hb
              go_wp2
              go_roundw
              case rel => exact ⟨_, rfl, by omega, by omega, HB3.out⟩
              case measure => simp [intOf]; omega
            · have hd3 : decide (q < 18) = false := by simp; omega
              go_wp2
              go_roundw
              case rel => exact ⟨j + 1, by go_num, by omega, HB3.out⟩
              case measure => simp [intOf]; omega
        · have hd2 : decide ((j : Int) < 28) = false := by simp; omega
          go_wp2
          go_roundw
          case rel => exact ⟨k + 1, by go_num, by omega, HB2.out⟩
          case measure => simp [intOf]; omega
    · have hd1 : decide ((k : Int) < 28) = false := by simp; omega
      go_wp2_with fail
      refine (l9known_any _).mono ?_; rintro e6 w6 ⟨rfl, hb⟩
      go_wp2
      go_ret
      exact ⟨rfl, HB.out.trans ((then_ HB1.out hb).mono HB.out.size)⟩
end Go.Proofs.Ytpceebpihojdcaa
