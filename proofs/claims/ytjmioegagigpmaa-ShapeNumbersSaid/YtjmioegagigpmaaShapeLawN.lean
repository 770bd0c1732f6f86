/- ShapeNumbers: the walk. -/
import Derived.Test.YtjmioegagigpmaaShapeLawA
import Derived.Test.YtjmioegagigpmaaKitApp
namespace Go.Proofs.Ytjmioegagigpmaa
open Go.RowKit

theorem all_fits {xs : List Int} (h : xs.all (fun x => decide (-9223372036854775808 ≤ x) && decide (x ≤ 9223372036854775807)) = true) : ∀ x ∈ xs, Fits x := by
  intro x hx
  rw [List.all_eq_true] at h
  have := h x hx
  simp only [Bool.and_eq_true, decide_eq_true_eq] at this
  exact this

def dimsA : List Int := [-1, 0, 1, 2, 16, 32, 33, 1099511627776]
def dimsB : List Int := [0, 1, 3, 32, -5]

/-- The six literal lists of one round, and the list of them. -/
def six (w : World) (a b : Int) : World :=
  (((((((w.alloc (.cells #[.int .i64 a] 3)).alloc (.cells #[.int .i64 a, .int .i64 b] 3)).alloc (.cells #[.int .i64 b, .int .i64 a, .int .i64 4] 3)).alloc (.cells #[.int .i64 a, .int .i64 b, .int .i64 a, .int .i64 b] 3)).alloc (.cells #[.int .i64 b, .int .i64 b, .int .i64 b, .int .i64 4, .int .i64 1] 3)).alloc (.cells #[.int .i64 1, .int .i64 1, .int .i64 1, .int .i64 1, .int .i64 a] 3)).alloc
    (.cells #[.slice none 0 0, .slice (some ⟨w.heap.size, 0, none⟩) 1 1, .slice (some ⟨w.heap.size + 1, 0, none⟩) 2 2, .slice (some ⟨w.heap.size + 2, 0, none⟩) 3 3, .slice (some ⟨w.heap.size + 3, 0, none⟩) 4 4, .slice (some ⟨w.heap.size + 4, 0, none⟩) 5 5, .slice (some ⟨w.heap.size + 5, 0, none⟩) 5 5] 22))

theorem mem2 {P : Int → Prop} {a b : Int} {xs : List Int} (ha : P a) (hb : P b) (h4 : P 4) (h1 : P 1) (h : ∀ x ∈ xs, x = a ∨ x = b ∨ x = 4 ∨ x = 1) : ∀ x ∈ xs, P x := by
  intro x hx
  rcases h x hx with rfl | rfl | rfl | rfl <;> assumption

theorem six_lists (w : World) (a b : Int) (ha : Fits a) (hb : Fits b) : Lists (six w a b) (w.heap.size + 6) 7 := by
  have f4 : Fits 4 := ⟨by omega, by omega⟩
  have f1 : Fits 1 := ⟨by omega, by omega⟩
  have key : ∀ {xs : List Int}, (∀ x ∈ xs, x = a ∨ x = b ∨ x = 4 ∨ x = 1) → ∀ x ∈ xs, Fits x := fun h => mem2 ha hb f4 f1 h
  have h1 := ints_fresh w 3 #[.int .i64 a] [a] rfl (key (by simp)) 1 rfl (by omega)
  have h2 := ints_fresh (w.alloc (.cells #[.int .i64 a] 3)) 3 #[.int .i64 a, .int .i64 b] [a, b] rfl (key (by simp)) 2 rfl (by omega)
  have h3 := ints_fresh ((w.alloc (.cells #[.int .i64 a] 3)).alloc (.cells #[.int .i64 a, .int .i64 b] 3)) 3 #[.int .i64 b, .int .i64 a, .int .i64 4] [b, a, 4] rfl (key (by simp)) 3 rfl (by omega)
  have h4 := ints_fresh (((w.alloc (.cells #[.int .i64 a] 3)).alloc (.cells #[.int .i64 a, .int .i64 b] 3)).alloc (.cells #[.int .i64 b, .int .i64 a, .int .i64 4] 3)) 3 #[.int .i64 a, .int .i64 b, .int .i64 a, .int .i64 b] [a, b, a, b] rfl (key (by simp)) 4 rfl (by omega)
  have h5 := ints_fresh ((((w.alloc (.cells #[.int .i64 a] 3)).alloc (.cells #[.int .i64 a, .int .i64 b] 3)).alloc (.cells #[.int .i64 b, .int .i64 a, .int .i64 4] 3)).alloc (.cells #[.int .i64 a, .int .i64 b, .int .i64 a, .int .i64 b] 3)) 3 #[.int .i64 b, .int .i64 b, .int .i64 b, .int .i64 4, .int .i64 1] [b, b, b, 4, 1] rfl (key (by simp)) 5 rfl (by omega)
  have h6 := ints_fresh (((((w.alloc (.cells #[.int .i64 a] 3)).alloc (.cells #[.int .i64 a, .int .i64 b] 3)).alloc (.cells #[.int .i64 b, .int .i64 a, .int .i64 4] 3)).alloc (.cells #[.int .i64 a, .int .i64 b, .int .i64 a, .int .i64 b] 3)).alloc (.cells #[.int .i64 b, .int .i64 b, .int .i64 b, .int .i64 4, .int .i64 1] 3)) 3 #[.int .i64 1, .int .i64 1, .int .i64 1, .int .i64 1, .int .i64 a] [1, 1, 1, 1, a] rfl (key (by simp)) 5 rfl (by omega)
  have g1 := alist (c := 1) (((((h1.alloc (.cells #[.int .i64 a, .int .i64 b] 3)).alloc (.cells #[.int .i64 b, .int .i64 a, .int .i64 4] 3)).alloc (.cells #[.int .i64 a, .int .i64 b, .int .i64 a, .int .i64 b] 3)).alloc (.cells #[.int .i64 b, .int .i64 b, .int .i64 b, .int .i64 4, .int .i64 1] 3)).alloc (.cells #[.int .i64 1, .int .i64 1, .int .i64 1, .int .i64 1, .int .i64 a] 3)) (by omega)
  have g2 := alist (c := 2) ((((h2.alloc (.cells #[.int .i64 b, .int .i64 a, .int .i64 4] 3)).alloc (.cells #[.int .i64 a, .int .i64 b, .int .i64 a, .int .i64 b] 3)).alloc (.cells #[.int .i64 b, .int .i64 b, .int .i64 b, .int .i64 4, .int .i64 1] 3)).alloc (.cells #[.int .i64 1, .int .i64 1, .int .i64 1, .int .i64 1, .int .i64 a] 3)) (by omega)
  have g3 := alist (c := 3) (((h3.alloc (.cells #[.int .i64 a, .int .i64 b, .int .i64 a, .int .i64 b] 3)).alloc (.cells #[.int .i64 b, .int .i64 b, .int .i64 b, .int .i64 4, .int .i64 1] 3)).alloc (.cells #[.int .i64 1, .int .i64 1, .int .i64 1, .int .i64 1, .int .i64 a] 3)) (by omega)
  have g4 := alist (c := 4) ((h4.alloc (.cells #[.int .i64 b, .int .i64 b, .int .i64 b, .int .i64 4, .int .i64 1] 3)).alloc (.cells #[.int .i64 1, .int .i64 1, .int .i64 1, .int .i64 1, .int .i64 a] 3)) (by omega)
  have g5 := alist (c := 5) (h5.alloc (.cells #[.int .i64 1, .int .i64 1, .int .i64 1, .int .i64 1, .int .i64 a] 3)) (by omega)
  have g6 := alist (c := 5) h6 (by omega)
  simp only [World.size_alloc, Nat.add_assoc, Nat.reduceAdd] at g1 g2 g3 g4 g5 g6
  have := lists_new ((((((w.alloc (.cells #[.int .i64 a] 3)).alloc (.cells #[.int .i64 a, .int .i64 b] 3)).alloc (.cells #[.int .i64 b, .int .i64 a, .int .i64 4] 3)).alloc (.cells #[.int .i64 a, .int .i64 b, .int .i64 a, .int .i64 b] 3)).alloc (.cells #[.int .i64 b, .int .i64 b, .int .i64 b, .int .i64 4, .int .i64 1] 3)).alloc (.cells #[.int .i64 1, .int .i64 1, .int .i64 1, .int .i64 1, .int .i64 a] 3))
    #[.slice none 0 0, .slice (some ⟨w.heap.size, 0, none⟩) 1 1, .slice (some ⟨w.heap.size + 1, 0, none⟩) 2 2, .slice (some ⟨w.heap.size + 2, 0, none⟩) 3 3, .slice (some ⟨w.heap.size + 3, 0, none⟩) 4 4, .slice (some ⟨w.heap.size + 4, 0, none⟩) 5 5, .slice (some ⟨w.heap.size + 5, 0, none⟩) 5 5] 22 7 rfl (by
      intro v hv
      simp only [List.mem_cons, List.not_mem_nil, or_false] at hv
      rcases hv with rfl | rfl | rfl | rfl | rfl | rfl | rfl
      · exact alist (Ints.nil_ _ _) (by omega)
      all_goals assumption)
  simpa [six, World.size_alloc] using this

theorem below_six (w : World) (a b : Int) : Below w.heap.size w (six w a b) :=
  (((((((((Below.refl _ _).alloc (Nat.le_refl _) _).alloc (by simp) _).alloc (by simp; omega) _).alloc (by simp; omega) _).alloc (by simp; omega) _).alloc (by simp; omega) _).alloc (by simp; omega) _))

theorem dims_fit {xs : List Int} {k : Nat} {x : Int} (h : xs.all (fun x => decide (-9223372036854775808 ≤ x) && decide (x ≤ 9223372036854775807)) = true) (hx : xs[k]? = some x) : Fits x := all_fits h x (List.mem_of_getElem? hx)

set_option maxRecDepth 100000 in
set_option maxHeartbeats 3200000 in
theorem numbers_walk (w : World) :
    Calls Try.prog 3 #[] w fun e w' => e = .returned (.bool true) ∧ Below w.heap.size w w' := by
  have hA : Ints (w.alloc (.cells #[.int .i64 (-1), .int .i64 0, .int .i64 1, .int .i64 2, .int .i64 16, .int .i64 32, .int .i64 33, .int .i64 1099511627776] 3)) (some ⟨w.heap.size, 0, none⟩) 8 dimsA := ints_lit _ _ _ _ _ _ rfl rfl (by decide)
  have hB := (Below.refl w.heap.size w).alloc (Nat.le_refl _) (.cells #[.int .i64 (-1), .int .i64 0, .int .i64 1, .int .i64 2, .int .i64 16, .int .i64 32, .int .i64 33, .int .i64 1099511627776] 3)
  go_enter Try.func3, Try.ntmps3
  go_wp2_with fail
  go_loopw [12] (fun kv wr => ∃ k : Nat, kv = .int .i64 k ∧ k ≤ 8 ∧ Ints wr (some ⟨w.heap.size, 0, none⟩) 8 dimsA ∧ Below w.heap.size w wr) (fun kv _ => 8 - (intOf kv).toNat)
  case atStart => exact ⟨0, rfl, by omega, hA, hB⟩
  case round =>
    clear hA hB
    obtain ⟨k, rfl, hk, hA, hB⟩ := hrel
    obtain ⟨w1, rfl⟩ : ∃ w1 : World, w1 = wr := ⟨_, rfl⟩
    have HB := Lib.hid hB
    clear hB
    by_cases hlt : k < 8
    · obtain ⟨ad, a, e1, hb, hx, hcx, hfa⟩ := hA.at_ hlt
      injection e1 with e1
      subst e1
      rw [Addr.add_lit, Nat.zero_add] at hcx
      clear hx hb
      have hd1 : decide ((k : Int) < 8) = true := by simp; omega
      have hBt : Ints (w1.alloc (.cells #[.int .i64 0, .int .i64 1, .int .i64 3, .int .i64 32, .int .i64 (-5)] 3)) (some ⟨w1.heap.size, 0, none⟩) 5 dimsB := ints_lit _ _ _ _ _ _ rfl rfl (by decide)
      have hb0 := (Below.refl w1.heap.size w1).alloc (Nat.le_refl _) (.cells #[.int .i64 0, .int .i64 1, .int .i64 3, .int .i64 32, .int .i64 (-5)] 3)
      go_wp2_with fail
      generalize w1.alloc (.cells #[.int .i64 0, .int .i64 1, .int .i64 3, .int .i64 32, .int .i64 (-5)] 3) = w0 at *
      go_loopw [18] (fun kv wx => ∃ j : Nat, kv = .int .i64 j ∧ j ≤ 5 ∧ Ints wx (some ⟨w1.heap.size, 0, none⟩) 5 dimsB ∧ Below w1.heap.size w1 wx) (fun kv _ => 5 - (intOf kv).toNat)
      case atStart => exact ⟨0, rfl, by omega, hBt, hb0⟩
      case round =>
        clear hBt hb0 hcx
        obtain ⟨j, rfl, hj, hBt, hb0⟩ := hrel
        obtain ⟨w2, rfl⟩ : ∃ w2 : World, w2 = wr := ⟨_, rfl⟩
        have HB0 := Lib.hid hb0
        clear hb0
        by_cases hlj : j < 5
        · obtain ⟨ad, b, e1, hb, hx, hcx, hfb⟩ := hBt.at_ hlj
          injection e1 with e1
          subst e1
          rw [Addr.add_lit, Nat.zero_add] at hcx
          clear hx hb
          have hd2 : decide ((j : Int) < 5) = true := by simp; omega
          have HL := Lib.hid (six_lists w2 a b hfa hfb)
          have HS := Lib.hid (below_six w2 a b)
          obtain ⟨hfa1, hfa2⟩ := hfa
          obtain ⟨hfb1, hfb2⟩ := hfb
          go_wp2_with fail
          change Code.wp _ _ _ _ (six w2 a b)
          generalize six w2 a b = w3 at *
          go_loopw [43] (fun kv wx => ∃ l : Nat, kv = .int .i64 l ∧ l ≤ 7 ∧ Lists wx (w2.heap.size + 6) 7 ∧ Below w2.heap.size w2 wx) (fun kv _ => 7 - (intOf kv).toNat)
          case atStart => exact ⟨0, rfl, by omega, HL.out, HS.out⟩
          case round =>
            clear HL HS hcx
            obtain ⟨l, rfl, hl, hLs, hb1⟩ := hrel
            obtain ⟨w4, rfl⟩ : ∃ w4 : World, w4 = wr := ⟨_, rfl⟩
            have HB1 := Lib.hid hb1
            clear hb1
            by_cases hll : l < 7
            · obtain ⟨A, m, c, xs, hcl, hmc, hI⟩ := hLs.2 l hll
              have hd3 : decide ((l : Int) < 7) = true := by simp; omega
              have hb2 := Below.refl w4.heap.size w4
              go_wp2_with fail
              go_loopw [7] (fun kv wx => ∃ i : Int, kv = .int .i64 i ∧ -1 ≤ i ∧ i ≤ 20 ∧ Below w4.heap.size w4 wx) (fun kv _ => (20 - intOf kv).toNat)
              case atStart => exact ⟨-1, rfl, by omega, by omega, hb2⟩
              case round =>
                clear hb2 hcl
                obtain ⟨i, rfl, hi1, hi2, hb2⟩ := hrel
                by_cases hil : i < 20
                · have hr0 := Int.emod_nonneg (i + 1) (b := 4) (by omega)
                  have hr1 := Int.emod_lt_of_pos (i + 1) (b := 4) (by omega)
                  obtain ⟨q, hq⟩ := Int.eq_ofNat_of_zero_le hr0
                  rw [hq] at hr1
                  have hq3 : q ≤ 3 := by omega
                  have hI2 := hI.below hb2
                  have hlit := ints_fresh wr 3 #[.int .i64 (bits .and .i64 i 3), .int .i64 (bits .and .i64 i 1), .int .i64 (bits .and .i64 i 7)] [bits .and .i64 i 3, bits .and .i64 i 1, bits .and .i64 i 7] rfl (by
                    intro x hx; simp only [List.mem_cons, List.not_mem_nil, or_false] at hx; rcases hx with rfl | rfl | rfl <;> exact fits_bits _ _ _) 3 rfl (by omega)
                  have hlt2 := hlit.take hq3
                  have hI3 := hI2.alloc (.cells #[.int .i64 (bits .and .i64 i 3), .int .i64 (bits .and .i64 i 1), .int .i64 (bits .and .i64 i 7)] 3)
                  have HB2 := Lib.hid (hb2.alloc hb2.size (.cells #[.int .i64 (bits .and .i64 i 3), .int .i64 (bits .and .i64 i 1), .int .i64 (bits .and .i64 i 7)] 3))
                  clear hr0 hI2 hlit hb2
                  go_wp2_with fail
                  refine (lawSame_any i hI3 hlt2 ⟨by omega, by omega⟩).mono ?_; rintro e w5 ⟨rfl, hb5⟩
                  have HB5 := Lib.hid (then_ HB2.out hb5)
                  clear hb5 hI3 hlt2 hq
                  go_wp2
                  go_roundw
                  case rel => exact ⟨i + 1, rfl, by omega, by omega, HB5.out⟩
                  case measure => simp [intOf]; omega
                · have hL2 := hLs.below hb2
                  have HB2 := Lib.hid (then_ HB1.out hb2)
                  clear hb2 hI hLs
                  go_wp2
                  go_roundw
                  case rel => exact ⟨l + 1, by go_num, by omega, hL2, HB2.out⟩
                  case measure => simp [intOf]; omega
            · have hB3 := hBt.below HB1.out
              have HB3 := Lib.hid (then_ HB0.out HB1.out)
              clear hLs hBt
              go_wp2
              go_roundw
              case rel => exact ⟨j + 1, by go_num, by omega, hB3, HB3.out⟩
              case measure => simp [intOf]; omega
        · have hj5 : j = 5 := by omega
          subst hj5
          have hA' := hA.below HB0.out
          have hB' := Lib.hid (then_ HB.out HB0.out)
          clear hBt hA
          go_wp2
          go_roundw
          case rel => exact ⟨k + 1, by go_num, by omega, hA', hB'.out⟩
          case measure => simp [intOf]; omega
    · have hk8 : k = 8 := by omega
      subst hk8
      have hS : Ints (w1.alloc (.cells #[.int .i64 3, .int .i64 2, .int .i64 4] 3)) (some ⟨w1.heap.size, 0, none⟩) 3 [3, 2, 4] := ints_lit _ _ _ _ _ _ rfl rfl (by decide)
      have HB0 := Lib.hid (HB.out.alloc HB.out.size (.cells #[.int .i64 3, .int .i64 2, .int .i64 4] 3))
      clear hA
      go_wp2_with fail
      generalize w1.alloc (.cells #[.int .i64 3, .int .i64 2, .int .i64 4] 3) = w0 at *
      go_loopw [9] (fun kv wx => ∃ i : Int, kv = .int .i64 i ∧ -2 ≤ i ∧ i ≤ 27 ∧ Ints wx (some ⟨w1.heap.size, 0, none⟩) 3 [3, 2, 4] ∧ Below w.heap.size w wx) (fun kv _ => (27 - intOf kv).toNat)
      case atStart => exact ⟨-2, rfl, by omega, by omega, hS, HB0.out⟩
      case round =>
        clear hS
        obtain ⟨i, rfl, hi1, hi2, hS, hb2⟩ := hrel
        obtain ⟨w4, rfl⟩ : ∃ w4 : World, w4 = wr := ⟨_, rfl⟩
        have HB1 := Lib.hid hb2
        clear hb2
        by_cases hil : i < 27
        · go_wp2_with fail
          refine (refPlace_any i hS ⟨by omega, by omega⟩).mono ?_; rintro e w5 ⟨⟨A1, n1, c1, rfl, hc1, h1⟩, hb5⟩
          have hS5 := hS.below hb5
          have HB5 := Lib.hid (then_ HB1.out hb5)
          clear hb5 hS
          go_wp2_with fail
          refine (lawSame_any i hS5 h1 ⟨by omega, by omega⟩).mono ?_; rintro e w6 ⟨rfl, hb6⟩
          have hS6 := hS5.below hb6
          have HB6 := Lib.hid (then_ HB5.out hb6)
          clear hb6 hS5 h1
          go_wp2
          go_roundw
          case rel => first | exact ⟨i + 1, rfl, by omega, by omega, hS6, HB6.out⟩ | ((repeat apply Exists.intro); exact ⟨⟨i + 1, rfl, by omega, by omega, hS6, HB6.out⟩, rfl⟩)
          case measure => simp [intOf]; omega
        · clear hS
          have hP : Ints (w4.alloc (.cells #[.int .i64 0, .int .i64 5] 3)) (some ⟨w4.heap.size, 0, none⟩) 2 [0, 5] := ints_lit _ _ _ _ _ _ rfl rfl (by decide)
          have hQ : Ints ((w4.alloc (.cells #[.int .i64 0, .int .i64 5] 3)).alloc (.cells #[.int .i64 0, .int .i64 0] 3)) (some ⟨w4.heap.size + 1, 0, none⟩) 2 [0, 0] := ints_lit _ _ _ _ _ _ (by simp) rfl (by decide)
          have HB2 := Lib.hid ((HB1.out.alloc HB1.out.size (.cells #[.int .i64 0, .int .i64 5] 3)).alloc (HB1.out.alloc HB1.out.size _).size (.cells #[.int .i64 0, .int .i64 0] 3))
          go_wp2_with fail
          refine (lawSame_any 0 (hP.alloc _) hQ ⟨by omega, by omega⟩).mono ?_; rintro e w5 ⟨rfl, hb5⟩
          have HB5 := Lib.hid (then_ HB2.out hb5)
          clear hb5 hP hQ
          have hP : Ints (w5.alloc (.cells #[.int .i64 16, .int .i64 16, .int .i64 16] 3)) (some ⟨w5.heap.size, 0, none⟩) 3 [16, 16, 16] := ints_lit _ _ _ _ _ _ rfl rfl (by decide)
          have hQ : Ints ((w5.alloc (.cells #[.int .i64 16, .int .i64 16, .int .i64 16] 3)).alloc (.cells #[.int .i64 15, .int .i64 15, .int .i64 15] 3)) (some ⟨w5.heap.size + 1, 0, none⟩) 3 [15, 15, 15] := ints_lit _ _ _ _ _ _ (by simp) rfl (by decide)
          have HB6 := Lib.hid ((HB5.out.alloc HB5.out.size (.cells #[.int .i64 16, .int .i64 16, .int .i64 16] 3)).alloc (HB5.out.alloc HB5.out.size _).size (.cells #[.int .i64 15, .int .i64 15, .int .i64 15] 3))
          go_wp2_with fail
          refine (lawSame_any 4095 (hP.alloc _) hQ ⟨by omega, by omega⟩).mono ?_; rintro e w6 ⟨rfl, hb6⟩
          have HB7 := Lib.hid (then_ HB6.out hb6)
          clear hb6 hP hQ
          go_wp2_with fail
          refine (known_any _).mono ?_; rintro e w7 ⟨rfl, hb7⟩
          have HB8 := Lib.hid (then_ HB7.out hb7)
          clear hb7
          go_wp2
          go_ret
          exact ⟨rfl, HB8.out⟩
end Go.Proofs.Ytjmioegagigpmaa
