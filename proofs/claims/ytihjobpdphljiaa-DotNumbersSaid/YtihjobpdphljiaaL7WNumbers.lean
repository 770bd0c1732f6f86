/- The walk of the law DotNumbers. -/
import Derived.Test.YtihjobpdphljiaaL7Same
import Derived.Test.YtihjobpdphljiaaSepC
import Derived.Test.YtihjobpdphljiaaKitReg
import Derived.Test.YtihjobpdphljiaaBox
namespace Go.Proofs.Ytihjobpdphljiaa
open Go.RowKit

set_option maxRecDepth 100000 in
set_option maxHeartbeats 12800000 in
theorem dnumbers_walk (w : World) :
    Calls Try.prog 3 #[] w fun e w' => e = .returned (.bool true) ∧ Below w.heap.size w w' := by
  have H := Lib.hid (Sep.nil w)
  have s1 := (((((((((((((H.out).lit 3 #[.int .i64 2] [2] 1 (w.heap.size) (by simp) rfl rfl).lit 3 #[.int .i64 3] [3] 1 (w.heap.size + 1) (by simp) rfl rfl).lit 3 #[.int .i64 2, .int .i64 3] [2, 3] 2 (w.heap.size + 1 + 1) (by simp) rfl rfl).lit 3 #[.int .i64 3, .int .i64 2] [3, 2] 2 (w.heap.size + 1 + 1 + 1) (by simp) rfl rfl).lit 3 #[.int .i64 2, .int .i64 3, .int .i64 2] [2, 3, 2] 3 (w.heap.size + 1 + 1 + 1 + 1) (by simp) rfl rfl).lit 3 #[.int .i64 2, .int .i64 2, .int .i64 3] [2, 2, 3] 3 (w.heap.size + 1 + 1 + 1 + 1 + 1) (by simp) rfl rfl).lit 3 #[.int .i64 2, .int .i64 0] [2, 0] 2 (w.heap.size + 1 + 1 + 1 + 1 + 1 + 1) (by simp) rfl rfl).lit 3 #[.int .i64 0, .int .i64 2] [0, 2] 2 (w.heap.size + 1 + 1 + 1 + 1 + 1 + 1 + 1) (by simp) rfl rfl).lit 3 #[.int .i64 2, .int .i64 3, .int .i64 4, .int .i64 2] [2, 3, 4, 2] 4 (w.heap.size + 1 + 1 + 1 + 1 + 1 + 1 + 1 + 1) (by simp) rfl rfl).lit 3 #[.int .i64 32, .int .i64 32] [32, 32] 2 (w.heap.size + 1 + 1 + 1 + 1 + 1 + 1 + 1 + 1 + 1) (by simp) rfl rfl).lit 3 #[.int .i64 32, .int .i64 32, .int .i64 4] [32, 32, 4] 3 (w.heap.size + 1 + 1 + 1 + 1 + 1 + 1 + 1 + 1 + 1 + 1) (by simp) rfl rfl).lit 3 #[.int .i64 33] [33] 1 (w.heap.size + 1 + 1 + 1 + 1 + 1 + 1 + 1 + 1 + 1 + 1 + 1) (by simp) rfl rfl).allocBox (w.heap.size + 1 + 1 + 1 + 1 + 1 + 1 + 1 + 1 + 1 + 1 + 1 + 1) 22 [.slice none 0 0, .slice (some ⟨w.heap.size, 0, none⟩) 1 1, .slice (some ⟨w.heap.size + 1, 0, none⟩) 1 1, .slice (some ⟨w.heap.size + 1 + 1, 0, none⟩) 2 2, .slice (some ⟨w.heap.size + 1 + 1 + 1, 0, none⟩) 2 2, .slice (some ⟨w.heap.size + 1 + 1 + 1 + 1, 0, none⟩) 3 3, .slice (some ⟨w.heap.size + 1 + 1 + 1 + 1 + 1, 0, none⟩) 3 3, .slice (some ⟨w.heap.size + 1 + 1 + 1 + 1 + 1 + 1, 0, none⟩) 2 2, .slice (some ⟨w.heap.size + 1 + 1 + 1 + 1 + 1 + 1 + 1, 0, none⟩) 2 2, .slice (some ⟨w.heap.size + 1 + 1 + 1 + 1 + 1 + 1 + 1 + 1, 0, none⟩) 4 4, .slice (some ⟨w.heap.size + 1 + 1 + 1 + 1 + 1 + 1 + 1 + 1 + 1, 0, none⟩) 2 2, .slice (some ⟨w.heap.size + 1 + 1 + 1 + 1 + 1 + 1 + 1 + 1 + 1 + 1, 0, none⟩) 3 3, .slice (some ⟨w.heap.size + 1 + 1 + 1 + 1 + 1 + 1 + 1 + 1 + 1 + 1 + 1, 0, none⟩) 1 1] (by simp)
  go_enter Try.func3, Try.ntmps3
  go_wp2_with fail
  generalize (((((((((((((w).alloc (.cells #[.int .i64 2] 3)).alloc (.cells #[.int .i64 3] 3)).alloc (.cells #[.int .i64 2, .int .i64 3] 3)).alloc (.cells #[.int .i64 3, .int .i64 2] 3)).alloc (.cells #[.int .i64 2, .int .i64 3, .int .i64 2] 3)).alloc (.cells #[.int .i64 2, .int .i64 2, .int .i64 3] 3)).alloc (.cells #[.int .i64 2, .int .i64 0] 3)).alloc (.cells #[.int .i64 0, .int .i64 2] 3)).alloc (.cells #[.int .i64 2, .int .i64 3, .int .i64 4, .int .i64 2] 3)).alloc (.cells #[.int .i64 32, .int .i64 32] 3)).alloc (.cells #[.int .i64 32, .int .i64 32, .int .i64 4] 3)).alloc (.cells #[.int .i64 33] 3)).alloc (.cells #[.slice none 0 0, .slice (some ⟨w.heap.size, 0, none⟩) 1 1, .slice (some ⟨w.heap.size + 1, 0, none⟩) 1 1, .slice (some ⟨w.heap.size + 1 + 1, 0, none⟩) 2 2, .slice (some ⟨w.heap.size + 1 + 1 + 1, 0, none⟩) 2 2, .slice (some ⟨w.heap.size + 1 + 1 + 1 + 1, 0, none⟩) 3 3, .slice (some ⟨w.heap.size + 1 + 1 + 1 + 1 + 1, 0, none⟩) 3 3, .slice (some ⟨w.heap.size + 1 + 1 + 1 + 1 + 1 + 1, 0, none⟩) 2 2, .slice (some ⟨w.heap.size + 1 + 1 + 1 + 1 + 1 + 1 + 1, 0, none⟩) 2 2, .slice (some ⟨w.heap.size + 1 + 1 + 1 + 1 + 1 + 1 + 1 + 1, 0, none⟩) 4 4, .slice (some ⟨w.heap.size + 1 + 1 + 1 + 1 + 1 + 1 + 1 + 1 + 1, 0, none⟩) 2 2, .slice (some ⟨w.heap.size + 1 + 1 + 1 + 1 + 1 + 1 + 1 + 1 + 1 + 1, 0, none⟩) 3 3, .slice (some ⟨w.heap.size + 1 + 1 + 1 + 1 + 1 + 1 + 1 + 1 + 1 + 1 + 1, 0, none⟩) 1 1] 22) = w4 at *
  generalize hgl : w.heap.size + 1 + 1 + 1 + 1 + 1 + 1 + 1 + 1 + 1 + 1 + 1 + 1 = gl at *
  have LT := Lib.hid (show ∀ i : Nat, i < 13 → ∃ (A : Option Addr) (n c : Nat) (xs : List Int), ([.slice none 0 0, .slice (some ⟨w.heap.size, 0, none⟩) 1 1, .slice (some ⟨w.heap.size + 1, 0, none⟩) 1 1, .slice (some ⟨w.heap.size + 1 + 1, 0, none⟩) 2 2, .slice (some ⟨w.heap.size + 1 + 1 + 1, 0, none⟩) 2 2, .slice (some ⟨w.heap.size + 1 + 1 + 1 + 1, 0, none⟩) 3 3, .slice (some ⟨w.heap.size + 1 + 1 + 1 + 1 + 1, 0, none⟩) 3 3, .slice (some ⟨w.heap.size + 1 + 1 + 1 + 1 + 1 + 1, 0, none⟩) 2 2, .slice (some ⟨w.heap.size + 1 + 1 + 1 + 1 + 1 + 1 + 1, 0, none⟩) 2 2, .slice (some ⟨w.heap.size + 1 + 1 + 1 + 1 + 1 + 1 + 1 + 1, 0, none⟩) 4 4, .slice (some ⟨w.heap.size + 1 + 1 + 1 + 1 + 1 + 1 + 1 + 1 + 1, 0, none⟩) 2 2, .slice (some ⟨w.heap.size + 1 + 1 + 1 + 1 + 1 + 1 + 1 + 1 + 1 + 1, 0, none⟩) 3 3, .slice (some ⟨w.heap.size + 1 + 1 + 1 + 1 + 1 + 1 + 1 + 1 + 1 + 1 + 1, 0, none⟩) 1 1] : List Value)[i]? = some (.slice A n c) ∧ n ≤ c ∧ n ≤ 4 ∧ Ints w4 A n xs from fun i hi => by
    match i, hi with
    | 0, _ => exact ⟨none, 0, 0, [], rfl, Nat.le_refl _, by omega, Ints.nil_ _ none⟩
    | 1, _ => exact ⟨_, 1, 1, _, rfl, Nat.le_refl _, by omega, (s1.ownInts 12 rfl).2.2⟩
    | 2, _ => exact ⟨_, 1, 1, _, rfl, Nat.le_refl _, by omega, (s1.ownInts 11 rfl).2.2⟩
    | 3, _ => exact ⟨_, 2, 2, _, rfl, Nat.le_refl _, by omega, (s1.ownInts 10 rfl).2.2⟩
    | 4, _ => exact ⟨_, 2, 2, _, rfl, Nat.le_refl _, by omega, (s1.ownInts 9 rfl).2.2⟩
    | 5, _ => exact ⟨_, 3, 3, _, rfl, Nat.le_refl _, by omega, (s1.ownInts 8 rfl).2.2⟩
    | 6, _ => exact ⟨_, 3, 3, _, rfl, Nat.le_refl _, by omega, (s1.ownInts 7 rfl).2.2⟩
    | 7, _ => exact ⟨_, 2, 2, _, rfl, Nat.le_refl _, by omega, (s1.ownInts 6 rfl).2.2⟩
    | 8, _ => exact ⟨_, 2, 2, _, rfl, Nat.le_refl _, by omega, (s1.ownInts 5 rfl).2.2⟩
    | 9, _ => exact ⟨_, 4, 4, _, rfl, Nat.le_refl _, by omega, (s1.ownInts 4 rfl).2.2⟩
    | 10, _ => exact ⟨_, 2, 2, _, rfl, Nat.le_refl _, by omega, (s1.ownInts 3 rfl).2.2⟩
    | 11, _ => exact ⟨_, 3, 3, _, rfl, Nat.le_refl _, by omega, (s1.ownInts 2 rfl).2.2⟩
    | 12, _ => exact ⟨_, 1, 1, _, rfl, Nat.le_refl _, by omega, (s1.ownInts 1 rfl).2.2⟩
    | i + 13, hi => exact absurd hi (by omega))
  have HC := Lib.hid (fun (i : Nat) (u : Value) (hu : ([.slice none 0 0, .slice (some ⟨w.heap.size, 0, none⟩) 1 1, .slice (some ⟨w.heap.size + 1, 0, none⟩) 1 1, .slice (some ⟨w.heap.size + 1 + 1, 0, none⟩) 2 2, .slice (some ⟨w.heap.size + 1 + 1 + 1, 0, none⟩) 2 2, .slice (some ⟨w.heap.size + 1 + 1 + 1 + 1, 0, none⟩) 3 3, .slice (some ⟨w.heap.size + 1 + 1 + 1 + 1 + 1, 0, none⟩) 3 3, .slice (some ⟨w.heap.size + 1 + 1 + 1 + 1 + 1 + 1, 0, none⟩) 2 2, .slice (some ⟨w.heap.size + 1 + 1 + 1 + 1 + 1 + 1 + 1, 0, none⟩) 2 2, .slice (some ⟨w.heap.size + 1 + 1 + 1 + 1 + 1 + 1 + 1 + 1, 0, none⟩) 4 4, .slice (some ⟨w.heap.size + 1 + 1 + 1 + 1 + 1 + 1 + 1 + 1 + 1, 0, none⟩) 2 2, .slice (some ⟨w.heap.size + 1 + 1 + 1 + 1 + 1 + 1 + 1 + 1 + 1 + 1, 0, none⟩) 3 3, .slice (some ⟨w.heap.size + 1 + 1 + 1 + 1 + 1 + 1 + 1 + 1 + 1 + 1 + 1, 0, none⟩) 1 1] : List Value)[i]? = some u) => s1.cell 0 i rfl hu)
  have hgl4 := (s1.blockLt 0 rfl).2
  have HB4 := Lib.hid s1.base
  clear s1 H hgl
  go_loopw [24] (fun kv wr => ∃ i : Nat, kv = .int .i64 i ∧ i ≤ 13 ∧ Sep w4 wr []) (fun kv _ => 13 - (intOf kv).toNat)
  case atStart => exact ⟨0, rfl, by omega, Sep.nil w4⟩
  case round =>
    obtain ⟨i, rfl, hi, hS⟩ := hrel
    have H := Lib.hid hS
    clear hS
    obtain ⟨v1, rfl⟩ : ∃ v1 : World, v1 = wr := ⟨_, rfl⟩
    by_cases hil : i < 13
    · have hd1 : decide ((i : Int) < 13) = true := by simp; omega
      obtain ⟨A, n, c, xs, hv, hnc, hn3, hI⟩ := LT.out i hil
      have HI := Lib.hid hI
      have HV := Lib.hid hv
      clear hI hv
      go_wp2_with fail
      go_loopw [29] (fun kv wr => ∃ k : Nat, kv = .int .i64 k ∧ k ≤ 13 ∧ Sep w4 wr []) (fun kv _ => 13 - (intOf kv).toNat)
      case atStart => exact ⟨0, rfl, by omega, H.out⟩
      case round =>
        clear H
        obtain ⟨k, rfl, hk, hS⟩ := hrel
        have H := Lib.hid hS
        clear hS
        obtain ⟨v2, rfl⟩ : ∃ v2 : World, v2 = wr := ⟨_, rfl⟩
        by_cases hkl : k < 13
        · have hd2 : decide ((k : Int) < 13) = true := by simp; omega
          obtain ⟨A2, n2, c2, ys, hv, hnc2, hn32, hI⟩ := LT.out k hkl
          have HI2 := Lib.hid hI
          have HV2 := Lib.hid hv
          clear hI hv
          go_wp2_with fail
          go_loopw [4] (fun kv wr => ∃ o : Int, kv = .int .i64 o ∧ -1 ≤ o ∧ o ≤ 4 ∧ Sep w4 wr []) (fun kv _ => (4 - intOf kv).toNat)
          case atStart => exact ⟨-1, rfl, by omega, by omega, H.out⟩
          case round =>
            clear H
            obtain ⟨o, rfl, ho1, ho2, hS⟩ := hrel
            have H := Lib.hid hS
            clear hS
            obtain ⟨v3, rfl⟩ : ∃ v3 : World, v3 = wr := ⟨_, rfl⟩
            by_cases hol : o < 4
            · have hd3 : decide (o < 4) = true := by simpa using hol
              have hi13 : (i : Int) < 13 := by omega
              have hk13 : (k : Int) < 13 := by omega
              go_upto_region 11 with fail
              go_cut [5, 6] (fun u1 u2 wx => ∃ (g5 g6 : Nat) (Sa Da Sb Db : Option Addr) (na ca ma da nb cb mb db : Nat) (D1 D2 : List Int), u1 = .pointer (some ⟨g5, 0, none⟩) ∧ u2 = .pointer (some ⟨g6, 0, none⟩) ∧ ma ≤ 4096 ∧ mb ≤ 4096 ∧ Sep w4 wx (.box g5 26 [.slice Sa na ca, .slice Da ma da] :: .box g6 26 [.slice Sb nb cb, .slice Db mb db] :: .own 3 (.slice Sa na ca) na xs :: .own 2 (.slice Da ma da) ma D1 :: .own 3 (.slice Sb nb cb) nb ys :: .own 2 (.slice Db mb db) mb D2 :: []))
              case first =>
                have G0 := Lib.hid H.out.drew
                have z0 := G0.out.oldCell (p := ⟨gl, i, none⟩) hgl4 (HC.out i _ HV.out)
                have z1 := G0.out.oldCell (p := ⟨gl, k, none⟩) hgl4 (HC.out k _ HV2.out)
                refine wp_region_held_drew (S := (fun w' => w'.cell? ⟨gl, i, none⟩ = some (.slice A n c) ∧ w'.cell? ⟨gl, k, none⟩ = some (.slice A2 n2 c2))) (by kernel_rfl) ?_ (fun hHeld => ?_)
                · exact ⟨z0, z1⟩
                first | (refine takeU (i := 0) (oi := { dst := some 36, op := Op.move (Operand.tmp 1), type := 23, pos := "law.go:35", after := #[], guard := none }) rfl (by kernel_rfl) (by kernel_rfl) (by kernel_rfl) (fun _ _ _ h => h) ?_ hHeld ?_; (focus rfl)) | (refine takeW (i := 0) (oi := { dst := some 36, op := Op.move (Operand.tmp 1), type := 23, pos := "law.go:35", after := #[], guard := none }) ?_ rfl (by kernel_rfl) (by kernel_rfl) (by kernel_rfl) (fun _ _ _ h => h) ?_ ?_ hHeld ?_; rotate_left; (focus rfl); (focus (intro wq hSq; obtain ⟨sq0, sq1⟩ := hSq; (first | (go_simp; done) | (go_simp; with_reducible rfl)))))
                try simp only [Act.put, List.setIfInBounds_toArray, List.set_cons_zero, List.set_cons_succ]
                first | (refine takeU (i := 1) (oi := { dst := some 37, op := Op.move (Operand.tmp 2), type := 3, pos := "law.go:35", after := #[], guard := none }) rfl (by kernel_rfl) (by kernel_rfl) (by kernel_rfl) (fun _ _ _ h => h) ?_ hHeld ?_; (focus rfl)) | (refine takeW (i := 1) (oi := { dst := some 37, op := Op.move (Operand.tmp 2), type := 3, pos := "law.go:35", after := #[], guard := none }) ?_ rfl (by kernel_rfl) (by kernel_rfl) (by kernel_rfl) (fun _ _ _ h => h) ?_ ?_ hHeld ?_; rotate_left; (focus rfl); (focus (intro wq hSq; obtain ⟨sq0, sq1⟩ := hSq; (first | (go_simp; done) | (go_simp; with_reducible rfl)))))
                try simp only [Act.put, List.setIfInBounds_toArray, List.set_cons_zero, List.set_cons_succ]
                first | (refine takeU (i := 2) (oi := { dst := some 38, op := Op.indexAddr 23 (Operand.tmp 36) (Operand.tmp 37), type := 0, pos := "law.go:35", after := #[{ on := 0, ground := Ground.data }, { on := 1, ground := Ground.data }], guard := none }) rfl (by kernel_rfl) (by kernel_rfl) (by kernel_rfl) (fun _ _ _ h => h) ?_ hHeld ?_; (focus rfl)) | (refine takeW (i := 2) (oi := { dst := some 38, op := Op.indexAddr 23 (Operand.tmp 36) (Operand.tmp 37), type := 0, pos := "law.go:35", after := #[{ on := 0, ground := Ground.data }, { on := 1, ground := Ground.data }], guard := none }) ?_ rfl (by kernel_rfl) (by kernel_rfl) (by kernel_rfl) (fun _ _ _ h => h) ?_ ?_ hHeld ?_; rotate_left; (focus rfl); (focus (intro wq hSq; obtain ⟨sq0, sq1⟩ := hSq; (first | (go_simp; done) | (go_simp; with_reducible rfl)))))
                try simp only [Act.put, List.setIfInBounds_toArray, List.set_cons_zero, List.set_cons_succ]
                first | (refine takeU (i := 3) (oi := { dst := some 39, op := Op.load 22 (Operand.tmp 38), type := 22, pos := "law.go:35", after := #[{ on := 2, ground := Ground.data }], guard := none }) rfl (by kernel_rfl) (by kernel_rfl) (by kernel_rfl) (fun _ _ _ h => h) ?_ hHeld ?_; (focus rfl)) | (refine takeW (i := 3) (oi := { dst := some 39, op := Op.load 22 (Operand.tmp 38), type := 22, pos := "law.go:35", after := #[{ on := 2, ground := Ground.data }], guard := none }) ?_ rfl (by kernel_rfl) (by kernel_rfl) (by kernel_rfl) (fun _ _ _ h => h) ?_ ?_ hHeld ?_; rotate_left; (focus rfl); (focus (intro wq hSq; obtain ⟨sq0, sq1⟩ := hSq; (first | (go_simp; done) | (go_simp; with_reducible rfl)))))
                try simp only [Act.put, List.setIfInBounds_toArray, List.set_cons_zero, List.set_cons_succ]
                first | (refine takeU (i := 5) (oi := { dst := some 41, op := Op.move (Operand.tmp 1), type := 23, pos := "law.go:35", after := #[], guard := none }) rfl (by kernel_rfl) (by kernel_rfl) (by kernel_rfl) (fun _ _ _ h => h) ?_ hHeld ?_; (focus rfl)) | (refine takeW (i := 5) (oi := { dst := some 41, op := Op.move (Operand.tmp 1), type := 23, pos := "law.go:35", after := #[], guard := none }) ?_ rfl (by kernel_rfl) (by kernel_rfl) (by kernel_rfl) (fun _ _ _ h => h) ?_ ?_ hHeld ?_; rotate_left; (focus rfl); (focus (intro wq hSq; obtain ⟨sq0, sq1⟩ := hSq; (first | (go_simp; done) | (go_simp; with_reducible rfl)))))
                try simp only [Act.put, List.setIfInBounds_toArray, List.set_cons_zero, List.set_cons_succ]
                first | (refine takeU (i := 6) (oi := { dst := some 42, op := Op.move (Operand.tmp 3), type := 3, pos := "law.go:35", after := #[], guard := none }) rfl (by kernel_rfl) (by kernel_rfl) (by kernel_rfl) (fun _ _ _ h => h) ?_ hHeld ?_; (focus rfl)) | (refine takeW (i := 6) (oi := { dst := some 42, op := Op.move (Operand.tmp 3), type := 3, pos := "law.go:35", after := #[], guard := none }) ?_ rfl (by kernel_rfl) (by kernel_rfl) (by kernel_rfl) (fun _ _ _ h => h) ?_ ?_ hHeld ?_; rotate_left; (focus rfl); (focus (intro wq hSq; obtain ⟨sq0, sq1⟩ := hSq; (first | (go_simp; done) | (go_simp; with_reducible rfl)))))
                try simp only [Act.put, List.setIfInBounds_toArray, List.set_cons_zero, List.set_cons_succ]
                first | (refine takeU (i := 7) (oi := { dst := some 43, op := Op.indexAddr 23 (Operand.tmp 41) (Operand.tmp 42), type := 0, pos := "law.go:35", after := #[{ on := 5, ground := Ground.data }, { on := 6, ground := Ground.data }], guard := none }) rfl (by kernel_rfl) (by kernel_rfl) (by kernel_rfl) (fun _ _ _ h => h) ?_ hHeld ?_; (focus rfl)) | (refine takeW (i := 7) (oi := { dst := some 43, op := Op.indexAddr 23 (Operand.tmp 41) (Operand.tmp 42), type := 0, pos := "law.go:35", after := #[{ on := 5, ground := Ground.data }, { on := 6, ground := Ground.data }], guard := none }) ?_ rfl (by kernel_rfl) (by kernel_rfl) (by kernel_rfl) (fun _ _ _ h => h) ?_ ?_ hHeld ?_; rotate_left; (focus rfl); (focus (intro wq hSq; obtain ⟨sq0, sq1⟩ := hSq; (first | (go_simp; done) | (go_simp; with_reducible rfl)))))
                try simp only [Act.put, List.setIfInBounds_toArray, List.set_cons_zero, List.set_cons_succ]
                first | (refine takeU (i := 8) (oi := { dst := some 44, op := Op.load 22 (Operand.tmp 43), type := 22, pos := "law.go:35", after := #[{ on := 7, ground := Ground.data }], guard := none }) rfl (by kernel_rfl) (by kernel_rfl) (by kernel_rfl) (fun _ _ _ h => h) ?_ hHeld ?_; (focus rfl)) | (refine takeW (i := 8) (oi := { dst := some 44, op := Op.load 22 (Operand.tmp 43), type := 22, pos := "law.go:35", after := #[{ on := 7, ground := Ground.data }], guard := none }) ?_ rfl (by kernel_rfl) (by kernel_rfl) (by kernel_rfl) (fun _ _ _ h => h) ?_ ?_ hHeld ?_; rotate_left; (focus rfl); (focus (intro wq hSq; obtain ⟨sq0, sq1⟩ := hSq; (first | (go_simp; done) | (go_simp; with_reducible rfl)))))
                try simp only [Act.put, List.setIfInBounds_toArray, List.set_cons_zero, List.set_cons_succ]
                refine wpAnyH_ready (rs := [4, 10, 11]) (by kernel_rfl) (by simp) ?_
                refine (AllReadyH.cons (o := { dst := some 40, op := Op.call { callee := Callee.value (Operand.func 7), args := #[Operand.tmp 39, Operand.const (Value.int IntKind.i64 0)], argTypes := #[22, 2] }, type := 26, pos := "law.go:35", after := #[{ on := 3, ground := Ground.data }], guard := none }) rfl (fun K hK => ?_) (AllReadyH.cons (o := { dst := some 5, op := Op.alloc 26, type := 0, pos := "law.go:35", after := #[], guard := none }) rfl (fun K hK => ?_) (AllReadyH.cons (o := { dst := some 6, op := Op.alloc 26, type := 0, pos := "law.go:35", after := #[], guard := none }) rfl (fun K hK => ?_) AllReadyH.nil)))
                · as_aux_lemma =>
                    first | (refine effU ?_ ?_; (focus rfl)) | (go_simp; (go_at_call 7; have GB := Lib.hid ((H.out).drew); refine (refFill_any 0 (GB.out.oldI HI.out) (by omega) ⟨by omega, by omega⟩).mono ?_; rintro e5 x4 ⟨⟨u, rfl, hu⟩, hb⟩; obtain ⟨Sa, na, ca, Da, ma, da, rfl, _, hd, _, _, _, h5⟩ := GB.out.addTen hb hu; have hma : ma ≤ 4096 := (by have := (Sh.size_bd xs).2; rw [List.length_replicate] at hd; omega); have G4 := Lib.hid h5; have c1_0 := G4.out.oldCell (p := ⟨gl, i, none⟩) hgl4 (HC.out i _ HV.out); have c1_1 := G4.out.oldCell (p := ⟨gl, k, none⟩) hgl4 (HC.out k _ HV2.out); clear hu hb h5 hd GB); go_wp2_with fail)
                    refine hK.out _ _ ?_ (fun hHeld2 => ?_)
                    · first | assumption | (exact ⟨c1_0, c1_1⟩)
                    clear hK K hHeld
                    have hHeld := hHeld2; clear hHeld2
                    try simp only [Act.put, List.setIfInBounds_toArray, List.set_cons_zero, List.set_cons_succ]
                    refine wpAnyH_ready (rs := [9, 10, 11]) (by kernel_rfl) (by simp) ?_
                    refine (AllReadyH.cons (o := { dst := some 45, op := Op.call { callee := Callee.value (Operand.func 7), args := #[Operand.tmp 44, Operand.const (Value.int IntKind.i64 0)], argTypes := #[22, 2] }, type := 26, pos := "law.go:35", after := #[{ on := 8, ground := Ground.data }, { on := 4, ground := Ground.chain }], guard := none }) rfl (fun K hK => ?_) (AllReadyH.cons (o := { dst := some 5, op := Op.alloc 26, type := 0, pos := "law.go:35", after := #[], guard := none }) rfl (fun K hK => ?_) (AllReadyH.cons (o := { dst := some 6, op := Op.alloc 26, type := 0, pos := "law.go:35", after := #[], guard := none }) rfl (fun K hK => ?_) AllReadyH.nil)))
                    · as_aux_lemma =>
                        first | (refine effU ?_ ?_; (focus rfl)) | (go_simp; (go_at_call 7; have GB := Lib.hid (G4.out); refine (refFill_any 0 (GB.out.oldI HI2.out) (by omega) ⟨by omega, by omega⟩).mono ?_; rintro e5 x9 ⟨⟨u, rfl, hu⟩, hb⟩; obtain ⟨Sb, nb, cb, Db, mb, db, rfl, _, hd, _, _, _, h5⟩ := GB.out.addTen hb hu; have hmb : mb ≤ 4096 := (by have := (Sh.size_bd ys).2; rw [List.length_replicate] at hd; omega); have G9 := Lib.hid h5; have c2_0 := G9.out.oldCell (p := ⟨gl, i, none⟩) hgl4 (HC.out i _ HV.out); have c2_1 := G9.out.oldCell (p := ⟨gl, k, none⟩) hgl4 (HC.out k _ HV2.out); clear hu hb h5 hd GB); go_wp2_with fail)
                        refine hK.out _ _ ?_ (fun hHeld2 => ?_)
                        · first | assumption | (exact ⟨c2_0, c2_1⟩)
                        clear hK K hHeld
                        have hHeld := hHeld2; clear hHeld2
                        try simp only [Act.put, List.setIfInBounds_toArray, List.set_cons_zero, List.set_cons_succ]
                        refine wpAnyH_ready (rs := [10, 11]) (by kernel_rfl) (by simp) ?_
                        refine (AllReadyH.cons (o := { dst := some 5, op := Op.alloc 26, type := 0, pos := "law.go:35", after := #[], guard := none }) rfl (fun K hK => ?_) (AllReadyH.cons (o := { dst := some 6, op := Op.alloc 26, type := 0, pos := "law.go:35", after := #[], guard := none }) rfl (fun K hK => ?_) AllReadyH.nil))
                        · (have GA := Lib.hid ((G9.out).allocBox (x9.heap.size) 26 [.slice none 0 0, .slice none 0 0] rfl); have c3_0 := GA.out.oldCell (p := ⟨gl, i, none⟩) hgl4 (HC.out i _ HV.out); have c3_1 := GA.out.oldCell (p := ⟨gl, k, none⟩) hgl4 (HC.out k _ HV2.out))
                          go_simp
                          try go_wp2_with fail
                          refine hK.out _ _ ?_ (fun hHeld2 => ?_)
                          · first | assumption | (exact ⟨c3_0, c3_1⟩)
                          clear hK K hHeld
                          have hHeld := hHeld2; clear hHeld2
                          try simp only [Act.put, List.setIfInBounds_toArray, List.set_cons_zero, List.set_cons_succ]
                          refine wpAnyH_ready (rs := [11]) (by kernel_rfl) (by simp) ?_
                          refine (AllReadyH.cons (o := { dst := some 6, op := Op.alloc 26, type := 0, pos := "law.go:35", after := #[], guard := none }) rfl (fun K hK => ?_) AllReadyH.nil)
                          (have GA := Lib.hid (((G9.out).allocBox (x9.heap.size) 26 [.slice none 0 0, .slice none 0 0] rfl).allocBox (x9.heap.size + 1) 26 [.slice none 0 0, .slice none 0 0] (by simp)); have c4_0 := GA.out.oldCell (p := ⟨gl, i, none⟩) hgl4 (HC.out i _ HV.out); have c4_1 := GA.out.oldCell (p := ⟨gl, k, none⟩) hgl4 (HC.out k _ HV2.out))
                          go_simp
                          try go_wp2_with fail
                          refine hK.out _ _ ?_ (fun hHeld2 => ?_)
                          · first | assumption | (exact ⟨c4_0, c4_1⟩)
                          clear hK K hHeld
                          have hHeld := hHeld2; clear hHeld2
                          try simp only [Act.put, List.setIfInBounds_toArray, List.set_cons_zero, List.set_cons_succ]
                          refine wpAnyH_ready (rs := [12]) (by kernel_rfl) (by simp) ?_
                          refine (AllReadyH.cons (o := { dst := none, op := Op.store 26 (Operand.tmp 5) (Operand.tmp 40), type := 0, pos := "law.go:35", after := #[{ on := 10, ground := Ground.data }, { on := 4, ground := Ground.data }, { on := 9, ground := Ground.chain }, { on := 0, ground := Ground.phase }, { on := 1, ground := Ground.phase }, { on := 2, ground := Ground.phase }, { on := 3, ground := Ground.phase }, { on := 4, ground := Ground.phase }, { on := 5, ground := Ground.textOnly Departure.lateStores }, { on := 6, ground := Ground.textOnly Departure.lateStores }, { on := 7, ground := Ground.textOnly Departure.lateStores }, { on := 8, ground := Ground.textOnly Departure.lateStores }, { on := 9, ground := Ground.textOnly Departure.lateStoresUnsure }, { on := 10, ground := Ground.phase }, { on := 11, ground := Ground.phase }], guard := none }) rfl (fun K hK => ?_) AllReadyH.nil)
                          (have H12 := Lib.hid (((G9.out).allocBox (x9.heap.size) 26 [.slice Sa na ca, .slice Da ma da] rfl).allocBox (x9.heap.size + 1) 26 [.slice none 0 0, .slice none 0 0] (by simp)); have c5_0 := H12.out.oldCell (p := ⟨gl, i, none⟩) hgl4 (HC.out i _ HV.out); have c5_1 := H12.out.oldCell (p := ⟨gl, k, none⟩) hgl4 (HC.out k _ HV2.out))
                          go_simp
                          try go_wp2_with fail
                          refine hK.out _ _ ?_ (fun hHeld2 => ?_)
                          · first | assumption | (exact ⟨c5_0, c5_1⟩)
                          clear hK K hHeld
                          have hHeld := hHeld2; clear hHeld2
                          try simp only [Act.put, List.setIfInBounds_toArray, List.set_cons_zero, List.set_cons_succ]
                          refine wpAnyH_ready (rs := [13]) (by kernel_rfl) (by simp) ?_
                          refine (AllReadyH.cons (o := { dst := none, op := Op.store 26 (Operand.tmp 6) (Operand.tmp 45), type := 0, pos := "law.go:35", after := #[{ on := 11, ground := Ground.data }, { on := 9, ground := Ground.data }, { on := 12, ground := Ground.chain }, { on := 0, ground := Ground.phase }, { on := 1, ground := Ground.phase }, { on := 2, ground := Ground.phase }, { on := 3, ground := Ground.phase }, { on := 4, ground := Ground.phase }, { on := 5, ground := Ground.phase }, { on := 6, ground := Ground.phase }, { on := 7, ground := Ground.phase }, { on := 8, ground := Ground.phase }, { on := 9, ground := Ground.phase }, { on := 10, ground := Ground.phase }, { on := 11, ground := Ground.phase }, { on := 12, ground := Ground.phase }], guard := none }) rfl (fun K hK => ?_) AllReadyH.nil)
                          (have H13 := Lib.hid (((G9.out).allocBox (x9.heap.size) 26 [.slice Sa na ca, .slice Da ma da] rfl).allocBox (x9.heap.size + 1) 26 [.slice Sb nb cb, .slice Db mb db] (by simp)); have HF := Lib.hid (H13.out.sub (l' := [.box (x9.heap.size) 26 [.slice Sa na ca, .slice Da ma da], .box (x9.heap.size + 1) 26 [.slice Sb nb cb, .slice Db mb db], .own 3 (.slice Sa na ca) na xs, .own 2 (.slice Da ma da) ma (List.replicate (Sh.size xs).toNat 0), .own 3 (.slice Sb nb cb) nb ys, .own 2 (.slice Db mb db) mb (List.replicate (Sh.size ys).toNat 0)]) [1, 0, 4, 5, 2, 3] rfl (by decide)); have c6_0 := H13.out.oldCell (p := ⟨gl, i, none⟩) hgl4 (HC.out i _ HV.out); have c6_1 := H13.out.oldCell (p := ⟨gl, k, none⟩) hgl4 (HC.out k _ HV2.out))
                          go_simp
                          try go_wp2_with fail
                          refine hK.out _ _ ?_ (fun hHeld2 => ?_)
                          · first | assumption | (exact ⟨c6_0, c6_1⟩)
                          clear hK K hHeld
                          have hHeld := hHeld2; clear hHeld2
                          try simp only [Act.put, List.setIfInBounds_toArray, List.set_cons_zero, List.set_cons_succ]
                          refine wpAnyH_done (by kernel_rfl) ?_ _
                          go_wp2_with fail
                          go_meet
                          exact ⟨_, _, Sa, Da, Sb, Db, na, ca, ma, da, nb, cb, mb, db, _, _, rfl, rfl, hma, hmb, HF.out⟩
                        · (have GA := Lib.hid ((G9.out).allocBox (x9.heap.size) 26 [.slice none 0 0, .slice none 0 0] rfl); have c7_0 := GA.out.oldCell (p := ⟨gl, i, none⟩) hgl4 (HC.out i _ HV.out); have c7_1 := GA.out.oldCell (p := ⟨gl, k, none⟩) hgl4 (HC.out k _ HV2.out))
                          go_simp
                          try go_wp2_with fail
                          refine hK.out _ _ ?_ (fun hHeld2 => ?_)
                          · first | assumption | (exact ⟨c7_0, c7_1⟩)
                          clear hK K hHeld
                          have hHeld := hHeld2; clear hHeld2
                          try simp only [Act.put, List.setIfInBounds_toArray, List.set_cons_zero, List.set_cons_succ]
                          refine wpAnyH_ready (rs := [10]) (by kernel_rfl) (by simp) ?_
                          refine (AllReadyH.cons (o := { dst := some 5, op := Op.alloc 26, type := 0, pos := "law.go:35", after := #[], guard := none }) rfl (fun K hK => ?_) AllReadyH.nil)
                          (have GA := Lib.hid (((G9.out).allocBox (x9.heap.size) 26 [.slice none 0 0, .slice none 0 0] rfl).allocBox (x9.heap.size + 1) 26 [.slice none 0 0, .slice none 0 0] (by simp)); have c8_0 := GA.out.oldCell (p := ⟨gl, i, none⟩) hgl4 (HC.out i _ HV.out); have c8_1 := GA.out.oldCell (p := ⟨gl, k, none⟩) hgl4 (HC.out k _ HV2.out))
                          go_simp
                          try go_wp2_with fail
                          refine hK.out _ _ ?_ (fun hHeld2 => ?_)
                          · first | assumption | (exact ⟨c8_0, c8_1⟩)
                          clear hK K hHeld
                          have hHeld := hHeld2; clear hHeld2
                          try simp only [Act.put, List.setIfInBounds_toArray, List.set_cons_zero, List.set_cons_succ]
                          refine wpAnyH_ready (rs := [12]) (by kernel_rfl) (by simp) ?_
                          refine (AllReadyH.cons (o := { dst := none, op := Op.store 26 (Operand.tmp 5) (Operand.tmp 40), type := 0, pos := "law.go:35", after := #[{ on := 10, ground := Ground.data }, { on := 4, ground := Ground.data }, { on := 9, ground := Ground.chain }, { on := 0, ground := Ground.phase }, { on := 1, ground := Ground.phase }, { on := 2, ground := Ground.phase }, { on := 3, ground := Ground.phase }, { on := 4, ground := Ground.phase }, { on := 5, ground := Ground.textOnly Departure.lateStores }, { on := 6, ground := Ground.textOnly Departure.lateStores }, { on := 7, ground := Ground.textOnly Departure.lateStores }, { on := 8, ground := Ground.textOnly Departure.lateStores }, { on := 9, ground := Ground.textOnly Departure.lateStoresUnsure }, { on := 10, ground := Ground.phase }, { on := 11, ground := Ground.phase }], guard := none }) rfl (fun K hK => ?_) AllReadyH.nil)
                          (have H12 := Lib.hid (((G9.out).allocBox (x9.heap.size) 26 [.slice none 0 0, .slice none 0 0] rfl).allocBox (x9.heap.size + 1) 26 [.slice Sa na ca, .slice Da ma da] (by simp)); have c9_0 := H12.out.oldCell (p := ⟨gl, i, none⟩) hgl4 (HC.out i _ HV.out); have c9_1 := H12.out.oldCell (p := ⟨gl, k, none⟩) hgl4 (HC.out k _ HV2.out))
                          go_simp
                          try go_wp2_with fail
                          refine hK.out _ _ ?_ (fun hHeld2 => ?_)
                          · first | assumption | (exact ⟨c9_0, c9_1⟩)
                          clear hK K hHeld
                          have hHeld := hHeld2; clear hHeld2
                          try simp only [Act.put, List.setIfInBounds_toArray, List.set_cons_zero, List.set_cons_succ]
                          refine wpAnyH_ready (rs := [13]) (by kernel_rfl) (by simp) ?_
                          refine (AllReadyH.cons (o := { dst := none, op := Op.store 26 (Operand.tmp 6) (Operand.tmp 45), type := 0, pos := "law.go:35", after := #[{ on := 11, ground := Ground.data }, { on := 9, ground := Ground.data }, { on := 12, ground := Ground.chain }, { on := 0, ground := Ground.phase }, { on := 1, ground := Ground.phase }, { on := 2, ground := Ground.phase }, { on := 3, ground := Ground.phase }, { on := 4, ground := Ground.phase }, { on := 5, ground := Ground.phase }, { on := 6, ground := Ground.phase }, { on := 7, ground := Ground.phase }, { on := 8, ground := Ground.phase }, { on := 9, ground := Ground.phase }, { on := 10, ground := Ground.phase }, { on := 11, ground := Ground.phase }, { on := 12, ground := Ground.phase }], guard := none }) rfl (fun K hK => ?_) AllReadyH.nil)
                          (have H13 := Lib.hid (((G9.out).allocBox (x9.heap.size) 26 [.slice Sb nb cb, .slice Db mb db] rfl).allocBox (x9.heap.size + 1) 26 [.slice Sa na ca, .slice Da ma da] (by simp)); have HF := Lib.hid (H13.out.sub (l' := [.box (x9.heap.size + 1) 26 [.slice Sa na ca, .slice Da ma da], .box (x9.heap.size) 26 [.slice Sb nb cb, .slice Db mb db], .own 3 (.slice Sa na ca) na xs, .own 2 (.slice Da ma da) ma (List.replicate (Sh.size xs).toNat 0), .own 3 (.slice Sb nb cb) nb ys, .own 2 (.slice Db mb db) mb (List.replicate (Sh.size ys).toNat 0)]) [0, 1, 4, 5, 2, 3] rfl (by decide)); have c10_0 := H13.out.oldCell (p := ⟨gl, i, none⟩) hgl4 (HC.out i _ HV.out); have c10_1 := H13.out.oldCell (p := ⟨gl, k, none⟩) hgl4 (HC.out k _ HV2.out))
                          go_simp
                          try go_wp2_with fail
                          refine hK.out _ _ ?_ (fun hHeld2 => ?_)
                          · first | assumption | (exact ⟨c10_0, c10_1⟩)
                          clear hK K hHeld
                          have hHeld := hHeld2; clear hHeld2
                          try simp only [Act.put, List.setIfInBounds_toArray, List.set_cons_zero, List.set_cons_succ]
                          refine wpAnyH_done (by kernel_rfl) ?_ _
                          go_wp2_with fail
                          go_meet
                          exact ⟨_, _, Sa, Da, Sb, Db, na, ca, ma, da, nb, cb, mb, db, _, _, rfl, rfl, hma, hmb, HF.out⟩
                    · as_aux_lemma =>
                        (have GA := Lib.hid ((G4.out).allocBox (x4.heap.size) 26 [.slice none 0 0, .slice none 0 0] rfl); have c11_0 := GA.out.oldCell (p := ⟨gl, i, none⟩) hgl4 (HC.out i _ HV.out); have c11_1 := GA.out.oldCell (p := ⟨gl, k, none⟩) hgl4 (HC.out k _ HV2.out))
                        go_simp
                        try go_wp2_with fail
                        refine hK.out _ _ ?_ (fun hHeld2 => ?_)
                        · first | assumption | (exact ⟨c11_0, c11_1⟩)
                        clear hK K hHeld
                        have hHeld := hHeld2; clear hHeld2
                        try simp only [Act.put, List.setIfInBounds_toArray, List.set_cons_zero, List.set_cons_succ]
                        refine wpAnyH_ready (rs := [9, 11]) (by kernel_rfl) (by simp) ?_
                        refine (AllReadyH.cons (o := { dst := some 45, op := Op.call { callee := Callee.value (Operand.func 7), args := #[Operand.tmp 44, Operand.const (Value.int IntKind.i64 0)], argTypes := #[22, 2] }, type := 26, pos := "law.go:35", after := #[{ on := 8, ground := Ground.data }, { on := 4, ground := Ground.chain }], guard := none }) rfl (fun K hK => ?_) (AllReadyH.cons (o := { dst := some 6, op := Op.alloc 26, type := 0, pos := "law.go:35", after := #[], guard := none }) rfl (fun K hK => ?_) AllReadyH.nil))
                        · first | (refine effU ?_ ?_; (focus rfl)) | (go_simp; (go_at_call 7; have GB := Lib.hid ((G4.out).allocBox (x4.heap.size) 26 [.slice none 0 0, .slice none 0 0] rfl); refine (refFill_any 0 (GB.out.oldI HI2.out) (by omega) ⟨by omega, by omega⟩).mono ?_; rintro e5 x9 ⟨⟨u, rfl, hu⟩, hb⟩; obtain ⟨Sb, nb, cb, Db, mb, db, rfl, _, hd, _, _, _, h5⟩ := GB.out.addTen hb hu; have hmb : mb ≤ 4096 := (by have := (Sh.size_bd ys).2; rw [List.length_replicate] at hd; omega); have G9 := Lib.hid h5; have c12_0 := G9.out.oldCell (p := ⟨gl, i, none⟩) hgl4 (HC.out i _ HV.out); have c12_1 := G9.out.oldCell (p := ⟨gl, k, none⟩) hgl4 (HC.out k _ HV2.out); clear hu hb h5 hd GB); go_wp2_with fail)
                          refine hK.out _ _ ?_ (fun hHeld2 => ?_)
                          · first | assumption | (exact ⟨c12_0, c12_1⟩)
                          clear hK K hHeld
                          have hHeld := hHeld2; clear hHeld2
                          try simp only [Act.put, List.setIfInBounds_toArray, List.set_cons_zero, List.set_cons_succ]
                          refine wpAnyH_ready (rs := [11]) (by kernel_rfl) (by simp) ?_
                          refine (AllReadyH.cons (o := { dst := some 6, op := Op.alloc 26, type := 0, pos := "law.go:35", after := #[], guard := none }) rfl (fun K hK => ?_) AllReadyH.nil)
                          (have GA := Lib.hid ((G9.out).allocBox (x9.heap.size) 26 [.slice none 0 0, .slice none 0 0] rfl); have c13_0 := GA.out.oldCell (p := ⟨gl, i, none⟩) hgl4 (HC.out i _ HV.out); have c13_1 := GA.out.oldCell (p := ⟨gl, k, none⟩) hgl4 (HC.out k _ HV2.out))
                          go_simp
                          try go_wp2_with fail
                          refine hK.out _ _ ?_ (fun hHeld2 => ?_)
                          · first | assumption | (exact ⟨c13_0, c13_1⟩)
                          clear hK K hHeld
                          have hHeld := hHeld2; clear hHeld2
                          try simp only [Act.put, List.setIfInBounds_toArray, List.set_cons_zero, List.set_cons_succ]
                          refine wpAnyH_ready (rs := [12]) (by kernel_rfl) (by simp) ?_
                          refine (AllReadyH.cons (o := { dst := none, op := Op.store 26 (Operand.tmp 5) (Operand.tmp 40), type := 0, pos := "law.go:35", after := #[{ on := 10, ground := Ground.data }, { on := 4, ground := Ground.data }, { on := 9, ground := Ground.chain }, { on := 0, ground := Ground.phase }, { on := 1, ground := Ground.phase }, { on := 2, ground := Ground.phase }, { on := 3, ground := Ground.phase }, { on := 4, ground := Ground.phase }, { on := 5, ground := Ground.textOnly Departure.lateStores }, { on := 6, ground := Ground.textOnly Departure.lateStores }, { on := 7, ground := Ground.textOnly Departure.lateStores }, { on := 8, ground := Ground.textOnly Departure.lateStores }, { on := 9, ground := Ground.textOnly Departure.lateStoresUnsure }, { on := 10, ground := Ground.phase }, { on := 11, ground := Ground.phase }], guard := none }) rfl (fun K hK => ?_) AllReadyH.nil)
                          (have GC := Lib.hid ((G9.out).allocBox (x9.heap.size) 26 [.slice none 0 0, .slice none 0 0] rfl); have f0 := (GC.out).cell 3 0 rfl rfl; have f1 := (GC.out).cell 3 1 rfl rfl; have f2 := (GC.out).frozenBox 3 0 rfl; have f3 := (GC.out).frozenBox 3 1 rfl; have H12 := Lib.hid (((GC.out).setBox 3 0 (.slice Sa na ca) rfl).setBox 3 1 (.slice Da ma da) rfl); have c14_0 := H12.out.oldCell (p := ⟨gl, i, none⟩) hgl4 (HC.out i _ HV.out); have c14_1 := H12.out.oldCell (p := ⟨gl, k, none⟩) hgl4 (HC.out k _ HV2.out))
                          go_simp
                          try go_wp2_with fail
                          refine hK.out _ _ ?_ (fun hHeld2 => ?_)
                          · first | assumption | (exact ⟨c14_0, c14_1⟩)
                          clear hK K hHeld
                          have hHeld := hHeld2; clear hHeld2
                          try simp only [Act.put, List.setIfInBounds_toArray, List.set_cons_zero, List.set_cons_succ]
                          refine wpAnyH_ready (rs := [13]) (by kernel_rfl) (by simp) ?_
                          refine (AllReadyH.cons (o := { dst := none, op := Op.store 26 (Operand.tmp 6) (Operand.tmp 45), type := 0, pos := "law.go:35", after := #[{ on := 11, ground := Ground.data }, { on := 9, ground := Ground.data }, { on := 12, ground := Ground.chain }, { on := 0, ground := Ground.phase }, { on := 1, ground := Ground.phase }, { on := 2, ground := Ground.phase }, { on := 3, ground := Ground.phase }, { on := 4, ground := Ground.phase }, { on := 5, ground := Ground.phase }, { on := 6, ground := Ground.phase }, { on := 7, ground := Ground.phase }, { on := 8, ground := Ground.phase }, { on := 9, ground := Ground.phase }, { on := 10, ground := Ground.phase }, { on := 11, ground := Ground.phase }, { on := 12, ground := Ground.phase }], guard := none }) rfl (fun K hK => ?_) AllReadyH.nil)
                          (have h0 := (H12.out).cell 0 0 rfl rfl; have h1 := (H12.out).cell 0 1 rfl rfl; have h2 := (H12.out).frozenBox 0 0 rfl; have h3 := (H12.out).frozenBox 0 1 rfl; have H13 := Lib.hid (((H12.out).setBox 0 0 (.slice Sb nb cb) rfl).setBox 0 1 (.slice Db mb db) rfl); have HF := Lib.hid (H13.out.sub (l' := [.box (x4.heap.size) 26 [.slice Sa na ca, .slice Da ma da], .box (x9.heap.size) 26 [.slice Sb nb cb, .slice Db mb db], .own 3 (.slice Sa na ca) na xs, .own 2 (.slice Da ma da) ma (List.replicate (Sh.size xs).toNat 0), .own 3 (.slice Sb nb cb) nb ys, .own 2 (.slice Db mb db) mb (List.replicate (Sh.size ys).toNat 0)]) [3, 0, 4, 5, 1, 2] rfl (by decide)); have c15_0 := H13.out.oldCell (p := ⟨gl, i, none⟩) hgl4 (HC.out i _ HV.out); have c15_1 := H13.out.oldCell (p := ⟨gl, k, none⟩) hgl4 (HC.out k _ HV2.out))
                          go_simp
                          try go_wp2_with fail
                          refine hK.out _ _ ?_ (fun hHeld2 => ?_)
                          · first | assumption | (exact ⟨c15_0, c15_1⟩)
                          clear hK K hHeld
                          have hHeld := hHeld2; clear hHeld2
                          try simp only [Act.put, List.setIfInBounds_toArray, List.set_cons_zero, List.set_cons_succ]
                          refine wpAnyH_done (by kernel_rfl) ?_ _
                          go_wp2_with fail
                          go_meet
                          exact ⟨_, _, Sa, Da, Sb, Db, na, ca, ma, da, nb, cb, mb, db, _, _, rfl, rfl, hma, hmb, HF.out⟩
                        · (have GA := Lib.hid (((G4.out).allocBox (x4.heap.size) 26 [.slice none 0 0, .slice none 0 0] rfl).allocBox (x4.heap.size + 1) 26 [.slice none 0 0, .slice none 0 0] (by simp)); have c16_0 := GA.out.oldCell (p := ⟨gl, i, none⟩) hgl4 (HC.out i _ HV.out); have c16_1 := GA.out.oldCell (p := ⟨gl, k, none⟩) hgl4 (HC.out k _ HV2.out))
                          go_simp
                          try go_wp2_with fail
                          refine hK.out _ _ ?_ (fun hHeld2 => ?_)
                          · first | assumption | (exact ⟨c16_0, c16_1⟩)
                          clear hK K hHeld
                          have hHeld := hHeld2; clear hHeld2
                          try simp only [Act.put, List.setIfInBounds_toArray, List.set_cons_zero, List.set_cons_succ]
                          refine wpAnyH_ready (rs := [9]) (by kernel_rfl) (by simp) ?_
                          refine (AllReadyH.cons (o := { dst := some 45, op := Op.call { callee := Callee.value (Operand.func 7), args := #[Operand.tmp 44, Operand.const (Value.int IntKind.i64 0)], argTypes := #[22, 2] }, type := 26, pos := "law.go:35", after := #[{ on := 8, ground := Ground.data }, { on := 4, ground := Ground.chain }], guard := none }) rfl (fun K hK => ?_) AllReadyH.nil)
                          first | (refine effU ?_ ?_; (focus rfl)) | (go_simp; (go_at_call 7; have GB := Lib.hid (((G4.out).allocBox (x4.heap.size) 26 [.slice none 0 0, .slice none 0 0] rfl).allocBox (x4.heap.size + 1) 26 [.slice none 0 0, .slice none 0 0] (by simp)); refine (refFill_any 0 (GB.out.oldI HI2.out) (by omega) ⟨by omega, by omega⟩).mono ?_; rintro e5 x9 ⟨⟨u, rfl, hu⟩, hb⟩; obtain ⟨Sb, nb, cb, Db, mb, db, rfl, _, hd, _, _, _, h5⟩ := GB.out.addTen hb hu; have hmb : mb ≤ 4096 := (by have := (Sh.size_bd ys).2; rw [List.length_replicate] at hd; omega); have G9 := Lib.hid h5; have c17_0 := G9.out.oldCell (p := ⟨gl, i, none⟩) hgl4 (HC.out i _ HV.out); have c17_1 := G9.out.oldCell (p := ⟨gl, k, none⟩) hgl4 (HC.out k _ HV2.out); clear hu hb h5 hd GB); go_wp2_with fail)
                          refine hK.out _ _ ?_ (fun hHeld2 => ?_)
                          · first | assumption | (exact ⟨c17_0, c17_1⟩)
                          clear hK K hHeld
                          have hHeld := hHeld2; clear hHeld2
                          try simp only [Act.put, List.setIfInBounds_toArray, List.set_cons_zero, List.set_cons_succ]
                          refine wpAnyH_ready (rs := [12]) (by kernel_rfl) (by simp) ?_
                          refine (AllReadyH.cons (o := { dst := none, op := Op.store 26 (Operand.tmp 5) (Operand.tmp 40), type := 0, pos := "law.go:35", after := #[{ on := 10, ground := Ground.data }, { on := 4, ground := Ground.data }, { on := 9, ground := Ground.chain }, { on := 0, ground := Ground.phase }, { on := 1, ground := Ground.phase }, { on := 2, ground := Ground.phase }, { on := 3, ground := Ground.phase }, { on := 4, ground := Ground.phase }, { on := 5, ground := Ground.textOnly Departure.lateStores }, { on := 6, ground := Ground.textOnly Departure.lateStores }, { on := 7, ground := Ground.textOnly Departure.lateStores }, { on := 8, ground := Ground.textOnly Departure.lateStores }, { on := 9, ground := Ground.textOnly Departure.lateStoresUnsure }, { on := 10, ground := Ground.phase }, { on := 11, ground := Ground.phase }], guard := none }) rfl (fun K hK => ?_) AllReadyH.nil)
                          (have GC := Lib.hid (G9.out); have f0 := (GC.out).cell 3 0 rfl rfl; have f1 := (GC.out).cell 3 1 rfl rfl; have f2 := (GC.out).frozenBox 3 0 rfl; have f3 := (GC.out).frozenBox 3 1 rfl; have H12 := Lib.hid (((GC.out).setBox 3 0 (.slice Sa na ca) rfl).setBox 3 1 (.slice Da ma da) rfl); have c18_0 := H12.out.oldCell (p := ⟨gl, i, none⟩) hgl4 (HC.out i _ HV.out); have c18_1 := H12.out.oldCell (p := ⟨gl, k, none⟩) hgl4 (HC.out k _ HV2.out))
                          go_simp
                          try go_wp2_with fail
                          refine hK.out _ _ ?_ (fun hHeld2 => ?_)
                          · first | assumption | (exact ⟨c18_0, c18_1⟩)
                          clear hK K hHeld
                          have hHeld := hHeld2; clear hHeld2
                          try simp only [Act.put, List.setIfInBounds_toArray, List.set_cons_zero, List.set_cons_succ]
                          refine wpAnyH_ready (rs := [13]) (by kernel_rfl) (by simp) ?_
                          refine (AllReadyH.cons (o := { dst := none, op := Op.store 26 (Operand.tmp 6) (Operand.tmp 45), type := 0, pos := "law.go:35", after := #[{ on := 11, ground := Ground.data }, { on := 9, ground := Ground.data }, { on := 12, ground := Ground.chain }, { on := 0, ground := Ground.phase }, { on := 1, ground := Ground.phase }, { on := 2, ground := Ground.phase }, { on := 3, ground := Ground.phase }, { on := 4, ground := Ground.phase }, { on := 5, ground := Ground.phase }, { on := 6, ground := Ground.phase }, { on := 7, ground := Ground.phase }, { on := 8, ground := Ground.phase }, { on := 9, ground := Ground.phase }, { on := 10, ground := Ground.phase }, { on := 11, ground := Ground.phase }, { on := 12, ground := Ground.phase }], guard := none }) rfl (fun K hK => ?_) AllReadyH.nil)
                          (have h0 := (H12.out).cell 2 0 rfl rfl; have h1 := (H12.out).cell 2 1 rfl rfl; have h2 := (H12.out).frozenBox 2 0 rfl; have h3 := (H12.out).frozenBox 2 1 rfl; have H13 := Lib.hid (((H12.out).setBox 2 0 (.slice Sb nb cb) rfl).setBox 2 1 (.slice Db mb db) rfl); have HF := Lib.hid (H13.out.sub (l' := [.box (x4.heap.size) 26 [.slice Sa na ca, .slice Da ma da], .box (x4.heap.size + 1) 26 [.slice Sb nb cb, .slice Db mb db], .own 3 (.slice Sa na ca) na xs, .own 2 (.slice Da ma da) ma (List.replicate (Sh.size xs).toNat 0), .own 3 (.slice Sb nb cb) nb ys, .own 2 (.slice Db mb db) mb (List.replicate (Sh.size ys).toNat 0)]) [3, 2, 4, 5, 0, 1] rfl (by decide)); have c19_0 := H13.out.oldCell (p := ⟨gl, i, none⟩) hgl4 (HC.out i _ HV.out); have c19_1 := H13.out.oldCell (p := ⟨gl, k, none⟩) hgl4 (HC.out k _ HV2.out))
                          go_simp
                          try go_wp2_with fail
                          refine hK.out _ _ ?_ (fun hHeld2 => ?_)
                          · first | assumption | (exact ⟨c19_0, c19_1⟩)
                          clear hK K hHeld
                          have hHeld := hHeld2; clear hHeld2
                          try simp only [Act.put, List.setIfInBounds_toArray, List.set_cons_zero, List.set_cons_succ]
                          refine wpAnyH_done (by kernel_rfl) ?_ _
                          go_wp2_with fail
                          go_meet
                          exact ⟨_, _, Sa, Da, Sb, Db, na, ca, ma, da, nb, cb, mb, db, _, _, rfl, rfl, hma, hmb, HF.out⟩
                    · as_aux_lemma =>
                        (have GA := Lib.hid ((G4.out).allocBox (x4.heap.size) 26 [.slice none 0 0, .slice none 0 0] rfl); have c20_0 := GA.out.oldCell (p := ⟨gl, i, none⟩) hgl4 (HC.out i _ HV.out); have c20_1 := GA.out.oldCell (p := ⟨gl, k, none⟩) hgl4 (HC.out k _ HV2.out))
                        go_simp
                        try go_wp2_with fail
                        refine hK.out _ _ ?_ (fun hHeld2 => ?_)
                        · first | assumption | (exact ⟨c20_0, c20_1⟩)
                        clear hK K hHeld
                        have hHeld := hHeld2; clear hHeld2
                        try simp only [Act.put, List.setIfInBounds_toArray, List.set_cons_zero, List.set_cons_succ]
                        refine wpAnyH_ready (rs := [9, 10]) (by kernel_rfl) (by simp) ?_
                        refine (AllReadyH.cons (o := { dst := some 45, op := Op.call { callee := Callee.value (Operand.func 7), args := #[Operand.tmp 44, Operand.const (Value.int IntKind.i64 0)], argTypes := #[22, 2] }, type := 26, pos := "law.go:35", after := #[{ on := 8, ground := Ground.data }, { on := 4, ground := Ground.chain }], guard := none }) rfl (fun K hK => ?_) (AllReadyH.cons (o := { dst := some 5, op := Op.alloc 26, type := 0, pos := "law.go:35", after := #[], guard := none }) rfl (fun K hK => ?_) AllReadyH.nil))
                        · first | (refine effU ?_ ?_; (focus rfl)) | (go_simp; (go_at_call 7; have GB := Lib.hid ((G4.out).allocBox (x4.heap.size) 26 [.slice none 0 0, .slice none 0 0] rfl); refine (refFill_any 0 (GB.out.oldI HI2.out) (by omega) ⟨by omega, by omega⟩).mono ?_; rintro e5 x9 ⟨⟨u, rfl, hu⟩, hb⟩; obtain ⟨Sb, nb, cb, Db, mb, db, rfl, _, hd, _, _, _, h5⟩ := GB.out.addTen hb hu; have hmb : mb ≤ 4096 := (by have := (Sh.size_bd ys).2; rw [List.length_replicate] at hd; omega); have G9 := Lib.hid h5; have c21_0 := G9.out.oldCell (p := ⟨gl, i, none⟩) hgl4 (HC.out i _ HV.out); have c21_1 := G9.out.oldCell (p := ⟨gl, k, none⟩) hgl4 (HC.out k _ HV2.out); clear hu hb h5 hd GB); go_wp2_with fail)
                          refine hK.out _ _ ?_ (fun hHeld2 => ?_)
                          · first | assumption | (exact ⟨c21_0, c21_1⟩)
                          clear hK K hHeld
                          have hHeld := hHeld2; clear hHeld2
                          try simp only [Act.put, List.setIfInBounds_toArray, List.set_cons_zero, List.set_cons_succ]
                          refine wpAnyH_ready (rs := [10]) (by kernel_rfl) (by simp) ?_
                          refine (AllReadyH.cons (o := { dst := some 5, op := Op.alloc 26, type := 0, pos := "law.go:35", after := #[], guard := none }) rfl (fun K hK => ?_) AllReadyH.nil)
                          (have GA := Lib.hid ((G9.out).allocBox (x9.heap.size) 26 [.slice none 0 0, .slice none 0 0] rfl); have c22_0 := GA.out.oldCell (p := ⟨gl, i, none⟩) hgl4 (HC.out i _ HV.out); have c22_1 := GA.out.oldCell (p := ⟨gl, k, none⟩) hgl4 (HC.out k _ HV2.out))
                          go_simp
                          try go_wp2_with fail
                          refine hK.out _ _ ?_ (fun hHeld2 => ?_)
                          · first | assumption | (exact ⟨c22_0, c22_1⟩)
                          clear hK K hHeld
                          have hHeld := hHeld2; clear hHeld2
                          try simp only [Act.put, List.setIfInBounds_toArray, List.set_cons_zero, List.set_cons_succ]
                          refine wpAnyH_ready (rs := [12]) (by kernel_rfl) (by simp) ?_
                          refine (AllReadyH.cons (o := { dst := none, op := Op.store 26 (Operand.tmp 5) (Operand.tmp 40), type := 0, pos := "law.go:35", after := #[{ on := 10, ground := Ground.data }, { on := 4, ground := Ground.data }, { on := 9, ground := Ground.chain }, { on := 0, ground := Ground.phase }, { on := 1, ground := Ground.phase }, { on := 2, ground := Ground.phase }, { on := 3, ground := Ground.phase }, { on := 4, ground := Ground.phase }, { on := 5, ground := Ground.textOnly Departure.lateStores }, { on := 6, ground := Ground.textOnly Departure.lateStores }, { on := 7, ground := Ground.textOnly Departure.lateStores }, { on := 8, ground := Ground.textOnly Departure.lateStores }, { on := 9, ground := Ground.textOnly Departure.lateStoresUnsure }, { on := 10, ground := Ground.phase }, { on := 11, ground := Ground.phase }], guard := none }) rfl (fun K hK => ?_) AllReadyH.nil)
                          (have H12 := Lib.hid ((G9.out).allocBox (x9.heap.size) 26 [.slice Sa na ca, .slice Da ma da] rfl); have c23_0 := H12.out.oldCell (p := ⟨gl, i, none⟩) hgl4 (HC.out i _ HV.out); have c23_1 := H12.out.oldCell (p := ⟨gl, k, none⟩) hgl4 (HC.out k _ HV2.out))
                          go_simp
                          try go_wp2_with fail
                          refine hK.out _ _ ?_ (fun hHeld2 => ?_)
                          · first | assumption | (exact ⟨c23_0, c23_1⟩)
                          clear hK K hHeld
                          have hHeld := hHeld2; clear hHeld2
                          try simp only [Act.put, List.setIfInBounds_toArray, List.set_cons_zero, List.set_cons_succ]
                          refine wpAnyH_ready (rs := [13]) (by kernel_rfl) (by simp) ?_
                          refine (AllReadyH.cons (o := { dst := none, op := Op.store 26 (Operand.tmp 6) (Operand.tmp 45), type := 0, pos := "law.go:35", after := #[{ on := 11, ground := Ground.data }, { on := 9, ground := Ground.data }, { on := 12, ground := Ground.chain }, { on := 0, ground := Ground.phase }, { on := 1, ground := Ground.phase }, { on := 2, ground := Ground.phase }, { on := 3, ground := Ground.phase }, { on := 4, ground := Ground.phase }, { on := 5, ground := Ground.phase }, { on := 6, ground := Ground.phase }, { on := 7, ground := Ground.phase }, { on := 8, ground := Ground.phase }, { on := 9, ground := Ground.phase }, { on := 10, ground := Ground.phase }, { on := 11, ground := Ground.phase }, { on := 12, ground := Ground.phase }], guard := none }) rfl (fun K hK => ?_) AllReadyH.nil)
                          (have h0 := (H12.out).cell 3 0 rfl rfl; have h1 := (H12.out).cell 3 1 rfl rfl; have h2 := (H12.out).frozenBox 3 0 rfl; have h3 := (H12.out).frozenBox 3 1 rfl; have H13 := Lib.hid (((H12.out).setBox 3 0 (.slice Sb nb cb) rfl).setBox 3 1 (.slice Db mb db) rfl); have HF := Lib.hid (H13.out.sub (l' := [.box (x9.heap.size) 26 [.slice Sa na ca, .slice Da ma da], .box (x4.heap.size) 26 [.slice Sb nb cb, .slice Db mb db], .own 3 (.slice Sa na ca) na xs, .own 2 (.slice Da ma da) ma (List.replicate (Sh.size xs).toNat 0), .own 3 (.slice Sb nb cb) nb ys, .own 2 (.slice Db mb db) mb (List.replicate (Sh.size ys).toNat 0)]) [0, 3, 4, 5, 1, 2] rfl (by decide)); have c24_0 := H13.out.oldCell (p := ⟨gl, i, none⟩) hgl4 (HC.out i _ HV.out); have c24_1 := H13.out.oldCell (p := ⟨gl, k, none⟩) hgl4 (HC.out k _ HV2.out))
                          go_simp
                          try go_wp2_with fail
                          refine hK.out _ _ ?_ (fun hHeld2 => ?_)
                          · first | assumption | (exact ⟨c24_0, c24_1⟩)
                          clear hK K hHeld
                          have hHeld := hHeld2; clear hHeld2
                          try simp only [Act.put, List.setIfInBounds_toArray, List.set_cons_zero, List.set_cons_succ]
                          refine wpAnyH_done (by kernel_rfl) ?_ _
                          go_wp2_with fail
                          go_meet
                          exact ⟨_, _, Sa, Da, Sb, Db, na, ca, ma, da, nb, cb, mb, db, _, _, rfl, rfl, hma, hmb, HF.out⟩
                        · (have GA := Lib.hid (((G4.out).allocBox (x4.heap.size) 26 [.slice none 0 0, .slice none 0 0] rfl).allocBox (x4.heap.size + 1) 26 [.slice none 0 0, .slice none 0 0] (by simp)); have c25_0 := GA.out.oldCell (p := ⟨gl, i, none⟩) hgl4 (HC.out i _ HV.out); have c25_1 := GA.out.oldCell (p := ⟨gl, k, none⟩) hgl4 (HC.out k _ HV2.out))
                          go_simp
                          try go_wp2_with fail
                          refine hK.out _ _ ?_ (fun hHeld2 => ?_)
                          · first | assumption | (exact ⟨c25_0, c25_1⟩)
                          clear hK K hHeld
                          have hHeld := hHeld2; clear hHeld2
                          try simp only [Act.put, List.setIfInBounds_toArray, List.set_cons_zero, List.set_cons_succ]
                          refine wpAnyH_ready (rs := [9]) (by kernel_rfl) (by simp) ?_
                          refine (AllReadyH.cons (o := { dst := some 45, op := Op.call { callee := Callee.value (Operand.func 7), args := #[Operand.tmp 44, Operand.const (Value.int IntKind.i64 0)], argTypes := #[22, 2] }, type := 26, pos := "law.go:35", after := #[{ on := 8, ground := Ground.data }, { on := 4, ground := Ground.chain }], guard := none }) rfl (fun K hK => ?_) AllReadyH.nil)
                          first | (refine effU ?_ ?_; (focus rfl)) | (go_simp; (go_at_call 7; have GB := Lib.hid (((G4.out).allocBox (x4.heap.size) 26 [.slice none 0 0, .slice none 0 0] rfl).allocBox (x4.heap.size + 1) 26 [.slice none 0 0, .slice none 0 0] (by simp)); refine (refFill_any 0 (GB.out.oldI HI2.out) (by omega) ⟨by omega, by omega⟩).mono ?_; rintro e5 x9 ⟨⟨u, rfl, hu⟩, hb⟩; obtain ⟨Sb, nb, cb, Db, mb, db, rfl, _, hd, _, _, _, h5⟩ := GB.out.addTen hb hu; have hmb : mb ≤ 4096 := (by have := (Sh.size_bd ys).2; rw [List.length_replicate] at hd; omega); have G9 := Lib.hid h5; have c26_0 := G9.out.oldCell (p := ⟨gl, i, none⟩) hgl4 (HC.out i _ HV.out); have c26_1 := G9.out.oldCell (p := ⟨gl, k, none⟩) hgl4 (HC.out k _ HV2.out); clear hu hb h5 hd GB); go_wp2_with fail)
                          refine hK.out _ _ ?_ (fun hHeld2 => ?_)
                          · first | assumption | (exact ⟨c26_0, c26_1⟩)
                          clear hK K hHeld
                          have hHeld := hHeld2; clear hHeld2
                          try simp only [Act.put, List.setIfInBounds_toArray, List.set_cons_zero, List.set_cons_succ]
                          refine wpAnyH_ready (rs := [12]) (by kernel_rfl) (by simp) ?_
                          refine (AllReadyH.cons (o := { dst := none, op := Op.store 26 (Operand.tmp 5) (Operand.tmp 40), type := 0, pos := "law.go:35", after := #[{ on := 10, ground := Ground.data }, { on := 4, ground := Ground.data }, { on := 9, ground := Ground.chain }, { on := 0, ground := Ground.phase }, { on := 1, ground := Ground.phase }, { on := 2, ground := Ground.phase }, { on := 3, ground := Ground.phase }, { on := 4, ground := Ground.phase }, { on := 5, ground := Ground.textOnly Departure.lateStores }, { on := 6, ground := Ground.textOnly Departure.lateStores }, { on := 7, ground := Ground.textOnly Departure.lateStores }, { on := 8, ground := Ground.textOnly Departure.lateStores }, { on := 9, ground := Ground.textOnly Departure.lateStoresUnsure }, { on := 10, ground := Ground.phase }, { on := 11, ground := Ground.phase }], guard := none }) rfl (fun K hK => ?_) AllReadyH.nil)
                          (have GC := Lib.hid (G9.out); have f0 := (GC.out).cell 2 0 rfl rfl; have f1 := (GC.out).cell 2 1 rfl rfl; have f2 := (GC.out).frozenBox 2 0 rfl; have f3 := (GC.out).frozenBox 2 1 rfl; have H12 := Lib.hid (((GC.out).setBox 2 0 (.slice Sa na ca) rfl).setBox 2 1 (.slice Da ma da) rfl); have c27_0 := H12.out.oldCell (p := ⟨gl, i, none⟩) hgl4 (HC.out i _ HV.out); have c27_1 := H12.out.oldCell (p := ⟨gl, k, none⟩) hgl4 (HC.out k _ HV2.out))
                          go_simp
                          try go_wp2_with fail
                          refine hK.out _ _ ?_ (fun hHeld2 => ?_)
                          · first | assumption | (exact ⟨c27_0, c27_1⟩)
                          clear hK K hHeld
                          have hHeld := hHeld2; clear hHeld2
                          try simp only [Act.put, List.setIfInBounds_toArray, List.set_cons_zero, List.set_cons_succ]
                          refine wpAnyH_ready (rs := [13]) (by kernel_rfl) (by simp) ?_
                          refine (AllReadyH.cons (o := { dst := none, op := Op.store 26 (Operand.tmp 6) (Operand.tmp 45), type := 0, pos := "law.go:35", after := #[{ on := 11, ground := Ground.data }, { on := 9, ground := Ground.data }, { on := 12, ground := Ground.chain }, { on := 0, ground := Ground.phase }, { on := 1, ground := Ground.phase }, { on := 2, ground := Ground.phase }, { on := 3, ground := Ground.phase }, { on := 4, ground := Ground.phase }, { on := 5, ground := Ground.phase }, { on := 6, ground := Ground.phase }, { on := 7, ground := Ground.phase }, { on := 8, ground := Ground.phase }, { on := 9, ground := Ground.phase }, { on := 10, ground := Ground.phase }, { on := 11, ground := Ground.phase }, { on := 12, ground := Ground.phase }], guard := none }) rfl (fun K hK => ?_) AllReadyH.nil)
                          (have h0 := (H12.out).cell 3 0 rfl rfl; have h1 := (H12.out).cell 3 1 rfl rfl; have h2 := (H12.out).frozenBox 3 0 rfl; have h3 := (H12.out).frozenBox 3 1 rfl; have H13 := Lib.hid (((H12.out).setBox 3 0 (.slice Sb nb cb) rfl).setBox 3 1 (.slice Db mb db) rfl); have HF := Lib.hid (H13.out.sub (l' := [.box (x4.heap.size + 1) 26 [.slice Sa na ca, .slice Da ma da], .box (x4.heap.size) 26 [.slice Sb nb cb, .slice Db mb db], .own 3 (.slice Sa na ca) na xs, .own 2 (.slice Da ma da) ma (List.replicate (Sh.size xs).toNat 0), .own 3 (.slice Sb nb cb) nb ys, .own 2 (.slice Db mb db) mb (List.replicate (Sh.size ys).toNat 0)]) [2, 3, 4, 5, 0, 1] rfl (by decide)); have c28_0 := H13.out.oldCell (p := ⟨gl, i, none⟩) hgl4 (HC.out i _ HV.out); have c28_1 := H13.out.oldCell (p := ⟨gl, k, none⟩) hgl4 (HC.out k _ HV2.out))
                          go_simp
                          try go_wp2_with fail
                          refine hK.out _ _ ?_ (fun hHeld2 => ?_)
                          · first | assumption | (exact ⟨c28_0, c28_1⟩)
                          clear hK K hHeld
                          have hHeld := hHeld2; clear hHeld2
                          try simp only [Act.put, List.setIfInBounds_toArray, List.set_cons_zero, List.set_cons_succ]
                          refine wpAnyH_done (by kernel_rfl) ?_ _
                          go_wp2_with fail
                          go_meet
                          exact ⟨_, _, Sa, Da, Sb, Db, na, ca, ma, da, nb, cb, mb, db, _, _, rfl, rfl, hma, hmb, HF.out⟩
                · as_aux_lemma =>
                    (have GA := Lib.hid (((H.out).allocBox (v3.heap.size) 26 [.slice none 0 0, .slice none 0 0] rfl).drew); have c29_0 := GA.out.oldCell (p := ⟨gl, i, none⟩) hgl4 (HC.out i _ HV.out); have c29_1 := GA.out.oldCell (p := ⟨gl, k, none⟩) hgl4 (HC.out k _ HV2.out))
                    go_simp
                    try go_wp2_with fail
                    refine hK.out _ _ ?_ (fun hHeld2 => ?_)
                    · first | assumption | (exact ⟨c29_0, c29_1⟩)
                    clear hK K hHeld
                    have hHeld := hHeld2; clear hHeld2
                    try simp only [Act.put, List.setIfInBounds_toArray, List.set_cons_zero, List.set_cons_succ]
                    refine wpAnyH_ready (rs := [4, 11]) (by kernel_rfl) (by simp) ?_
                    refine (AllReadyH.cons (o := { dst := some 40, op := Op.call { callee := Callee.value (Operand.func 7), args := #[Operand.tmp 39, Operand.const (Value.int IntKind.i64 0)], argTypes := #[22, 2] }, type := 26, pos := "law.go:35", after := #[{ on := 3, ground := Ground.data }], guard := none }) rfl (fun K hK => ?_) (AllReadyH.cons (o := { dst := some 6, op := Op.alloc 26, type := 0, pos := "law.go:35", after := #[], guard := none }) rfl (fun K hK => ?_) AllReadyH.nil))
                    · as_aux_lemma =>
                        first | (refine effU ?_ ?_; (focus rfl)) | (go_simp; (go_at_call 7; have GB := Lib.hid (((H.out).allocBox (v3.heap.size) 26 [.slice none 0 0, .slice none 0 0] rfl).drew); refine (refFill_any 0 (GB.out.oldI HI.out) (by omega) ⟨by omega, by omega⟩).mono ?_; rintro e5 x4 ⟨⟨u, rfl, hu⟩, hb⟩; obtain ⟨Sa, na, ca, Da, ma, da, rfl, _, hd, _, _, _, h5⟩ := GB.out.addTen hb hu; have hma : ma ≤ 4096 := (by have := (Sh.size_bd xs).2; rw [List.length_replicate] at hd; omega); have G4 := Lib.hid h5; have c30_0 := G4.out.oldCell (p := ⟨gl, i, none⟩) hgl4 (HC.out i _ HV.out); have c30_1 := G4.out.oldCell (p := ⟨gl, k, none⟩) hgl4 (HC.out k _ HV2.out); clear hu hb h5 hd GB); go_wp2_with fail)
                        refine hK.out _ _ ?_ (fun hHeld2 => ?_)
                        · first | assumption | (exact ⟨c30_0, c30_1⟩)
                        clear hK K hHeld
                        have hHeld := hHeld2; clear hHeld2
                        try simp only [Act.put, List.setIfInBounds_toArray, List.set_cons_zero, List.set_cons_succ]
                        refine wpAnyH_ready (rs := [9, 11]) (by kernel_rfl) (by simp) ?_
                        refine (AllReadyH.cons (o := { dst := some 45, op := Op.call { callee := Callee.value (Operand.func 7), args := #[Operand.tmp 44, Operand.const (Value.int IntKind.i64 0)], argTypes := #[22, 2] }, type := 26, pos := "law.go:35", after := #[{ on := 8, ground := Ground.data }, { on := 4, ground := Ground.chain }], guard := none }) rfl (fun K hK => ?_) (AllReadyH.cons (o := { dst := some 6, op := Op.alloc 26, type := 0, pos := "law.go:35", after := #[], guard := none }) rfl (fun K hK => ?_) AllReadyH.nil))
                        · first | (refine effU ?_ ?_; (focus rfl)) | (go_simp; (go_at_call 7; have GB := Lib.hid (G4.out); refine (refFill_any 0 (GB.out.oldI HI2.out) (by omega) ⟨by omega, by omega⟩).mono ?_; rintro e5 x9 ⟨⟨u, rfl, hu⟩, hb⟩; obtain ⟨Sb, nb, cb, Db, mb, db, rfl, _, hd, _, _, _, h5⟩ := GB.out.addTen hb hu; have hmb : mb ≤ 4096 := (by have := (Sh.size_bd ys).2; rw [List.length_replicate] at hd; omega); have G9 := Lib.hid h5; have c31_0 := G9.out.oldCell (p := ⟨gl, i, none⟩) hgl4 (HC.out i _ HV.out); have c31_1 := G9.out.oldCell (p := ⟨gl, k, none⟩) hgl4 (HC.out k _ HV2.out); clear hu hb h5 hd GB); go_wp2_with fail)
                          refine hK.out _ _ ?_ (fun hHeld2 => ?_)
                          · first | assumption | (exact ⟨c31_0, c31_1⟩)
                          clear hK K hHeld
                          have hHeld := hHeld2; clear hHeld2
                          try simp only [Act.put, List.setIfInBounds_toArray, List.set_cons_zero, List.set_cons_succ]
                          refine wpAnyH_ready (rs := [11]) (by kernel_rfl) (by simp) ?_
                          refine (AllReadyH.cons (o := { dst := some 6, op := Op.alloc 26, type := 0, pos := "law.go:35", after := #[], guard := none }) rfl (fun K hK => ?_) AllReadyH.nil)
                          (have GA := Lib.hid ((G9.out).allocBox (x9.heap.size) 26 [.slice none 0 0, .slice none 0 0] rfl); have c32_0 := GA.out.oldCell (p := ⟨gl, i, none⟩) hgl4 (HC.out i _ HV.out); have c32_1 := GA.out.oldCell (p := ⟨gl, k, none⟩) hgl4 (HC.out k _ HV2.out))
                          go_simp
                          try go_wp2_with fail
                          refine hK.out _ _ ?_ (fun hHeld2 => ?_)
                          · first | assumption | (exact ⟨c32_0, c32_1⟩)
                          clear hK K hHeld
                          have hHeld := hHeld2; clear hHeld2
                          try simp only [Act.put, List.setIfInBounds_toArray, List.set_cons_zero, List.set_cons_succ]
                          refine wpAnyH_ready (rs := [12]) (by kernel_rfl) (by simp) ?_
                          refine (AllReadyH.cons (o := { dst := none, op := Op.store 26 (Operand.tmp 5) (Operand.tmp 40), type := 0, pos := "law.go:35", after := #[{ on := 10, ground := Ground.data }, { on := 4, ground := Ground.data }, { on := 9, ground := Ground.chain }, { on := 0, ground := Ground.phase }, { on := 1, ground := Ground.phase }, { on := 2, ground := Ground.phase }, { on := 3, ground := Ground.phase }, { on := 4, ground := Ground.phase }, { on := 5, ground := Ground.textOnly Departure.lateStores }, { on := 6, ground := Ground.textOnly Departure.lateStores }, { on := 7, ground := Ground.textOnly Departure.lateStores }, { on := 8, ground := Ground.textOnly Departure.lateStores }, { on := 9, ground := Ground.textOnly Departure.lateStoresUnsure }, { on := 10, ground := Ground.phase }, { on := 11, ground := Ground.phase }], guard := none }) rfl (fun K hK => ?_) AllReadyH.nil)
                          (have GC := Lib.hid ((G9.out).allocBox (x9.heap.size) 26 [.slice none 0 0, .slice none 0 0] rfl); have f0 := (GC.out).cell 5 0 rfl rfl; have f1 := (GC.out).cell 5 1 rfl rfl; have f2 := (GC.out).frozenBox 5 0 rfl; have f3 := (GC.out).frozenBox 5 1 rfl; have H12 := Lib.hid (((GC.out).setBox 5 0 (.slice Sa na ca) rfl).setBox 5 1 (.slice Da ma da) rfl); have c33_0 := H12.out.oldCell (p := ⟨gl, i, none⟩) hgl4 (HC.out i _ HV.out); have c33_1 := H12.out.oldCell (p := ⟨gl, k, none⟩) hgl4 (HC.out k _ HV2.out))
                          go_simp
                          try go_wp2_with fail
                          refine hK.out _ _ ?_ (fun hHeld2 => ?_)
                          · first | assumption | (exact ⟨c33_0, c33_1⟩)
                          clear hK K hHeld
                          have hHeld := hHeld2; clear hHeld2
                          try simp only [Act.put, List.setIfInBounds_toArray, List.set_cons_zero, List.set_cons_succ]
                          refine wpAnyH_ready (rs := [13]) (by kernel_rfl) (by simp) ?_
                          refine (AllReadyH.cons (o := { dst := none, op := Op.store 26 (Operand.tmp 6) (Operand.tmp 45), type := 0, pos := "law.go:35", after := #[{ on := 11, ground := Ground.data }, { on := 9, ground := Ground.data }, { on := 12, ground := Ground.chain }, { on := 0, ground := Ground.phase }, { on := 1, ground := Ground.phase }, { on := 2, ground := Ground.phase }, { on := 3, ground := Ground.phase }, { on := 4, ground := Ground.phase }, { on := 5, ground := Ground.phase }, { on := 6, ground := Ground.phase }, { on := 7, ground := Ground.phase }, { on := 8, ground := Ground.phase }, { on := 9, ground := Ground.phase }, { on := 10, ground := Ground.phase }, { on := 11, ground := Ground.phase }, { on := 12, ground := Ground.phase }], guard := none }) rfl (fun K hK => ?_) AllReadyH.nil)
                          (have h0 := (H12.out).cell 0 0 rfl rfl; have h1 := (H12.out).cell 0 1 rfl rfl; have h2 := (H12.out).frozenBox 0 0 rfl; have h3 := (H12.out).frozenBox 0 1 rfl; have H13 := Lib.hid (((H12.out).setBox 0 0 (.slice Sb nb cb) rfl).setBox 0 1 (.slice Db mb db) rfl); have HF := Lib.hid (H13.out.sub (l' := [.box (v3.heap.size) 26 [.slice Sa na ca, .slice Da ma da], .box (x9.heap.size) 26 [.slice Sb nb cb, .slice Db mb db], .own 3 (.slice Sa na ca) na xs, .own 2 (.slice Da ma da) ma (List.replicate (Sh.size xs).toNat 0), .own 3 (.slice Sb nb cb) nb ys, .own 2 (.slice Db mb db) mb (List.replicate (Sh.size ys).toNat 0)]) [5, 0, 3, 4, 1, 2] rfl (by decide)); have c34_0 := H13.out.oldCell (p := ⟨gl, i, none⟩) hgl4 (HC.out i _ HV.out); have c34_1 := H13.out.oldCell (p := ⟨gl, k, none⟩) hgl4 (HC.out k _ HV2.out))
                          go_simp
                          try go_wp2_with fail
                          refine hK.out _ _ ?_ (fun hHeld2 => ?_)
                          · first | assumption | (exact ⟨c34_0, c34_1⟩)
                          clear hK K hHeld
                          have hHeld := hHeld2; clear hHeld2
                          try simp only [Act.put, List.setIfInBounds_toArray, List.set_cons_zero, List.set_cons_succ]
                          refine wpAnyH_done (by kernel_rfl) ?_ _
                          go_wp2_with fail
                          go_meet
                          exact ⟨_, _, Sa, Da, Sb, Db, na, ca, ma, da, nb, cb, mb, db, _, _, rfl, rfl, hma, hmb, HF.out⟩
                        · (have GA := Lib.hid ((G4.out).allocBox (x4.heap.size) 26 [.slice none 0 0, .slice none 0 0] rfl); have c35_0 := GA.out.oldCell (p := ⟨gl, i, none⟩) hgl4 (HC.out i _ HV.out); have c35_1 := GA.out.oldCell (p := ⟨gl, k, none⟩) hgl4 (HC.out k _ HV2.out))
                          go_simp
                          try go_wp2_with fail
                          refine hK.out _ _ ?_ (fun hHeld2 => ?_)
                          · first | assumption | (exact ⟨c35_0, c35_1⟩)
                          clear hK K hHeld
                          have hHeld := hHeld2; clear hHeld2
                          try simp only [Act.put, List.setIfInBounds_toArray, List.set_cons_zero, List.set_cons_succ]
                          refine wpAnyH_ready (rs := [9]) (by kernel_rfl) (by simp) ?_
                          refine (AllReadyH.cons (o := { dst := some 45, op := Op.call { callee := Callee.value (Operand.func 7), args := #[Operand.tmp 44, Operand.const (Value.int IntKind.i64 0)], argTypes := #[22, 2] }, type := 26, pos := "law.go:35", after := #[{ on := 8, ground := Ground.data }, { on := 4, ground := Ground.chain }], guard := none }) rfl (fun K hK => ?_) AllReadyH.nil)
                          first | (refine effU ?_ ?_; (focus rfl)) | (go_simp; (go_at_call 7; have GB := Lib.hid ((G4.out).allocBox (x4.heap.size) 26 [.slice none 0 0, .slice none 0 0] rfl); refine (refFill_any 0 (GB.out.oldI HI2.out) (by omega) ⟨by omega, by omega⟩).mono ?_; rintro e5 x9 ⟨⟨u, rfl, hu⟩, hb⟩; obtain ⟨Sb, nb, cb, Db, mb, db, rfl, _, hd, _, _, _, h5⟩ := GB.out.addTen hb hu; have hmb : mb ≤ 4096 := (by have := (Sh.size_bd ys).2; rw [List.length_replicate] at hd; omega); have G9 := Lib.hid h5; have c36_0 := G9.out.oldCell (p := ⟨gl, i, none⟩) hgl4 (HC.out i _ HV.out); have c36_1 := G9.out.oldCell (p := ⟨gl, k, none⟩) hgl4 (HC.out k _ HV2.out); clear hu hb h5 hd GB); go_wp2_with fail)
                          refine hK.out _ _ ?_ (fun hHeld2 => ?_)
                          · first | assumption | (exact ⟨c36_0, c36_1⟩)
                          clear hK K hHeld
                          have hHeld := hHeld2; clear hHeld2
                          try simp only [Act.put, List.setIfInBounds_toArray, List.set_cons_zero, List.set_cons_succ]
                          refine wpAnyH_ready (rs := [12]) (by kernel_rfl) (by simp) ?_
                          refine (AllReadyH.cons (o := { dst := none, op := Op.store 26 (Operand.tmp 5) (Operand.tmp 40), type := 0, pos := "law.go:35", after := #[{ on := 10, ground := Ground.data }, { on := 4, ground := Ground.data }, { on := 9, ground := Ground.chain }, { on := 0, ground := Ground.phase }, { on := 1, ground := Ground.phase }, { on := 2, ground := Ground.phase }, { on := 3, ground := Ground.phase }, { on := 4, ground := Ground.phase }, { on := 5, ground := Ground.textOnly Departure.lateStores }, { on := 6, ground := Ground.textOnly Departure.lateStores }, { on := 7, ground := Ground.textOnly Departure.lateStores }, { on := 8, ground := Ground.textOnly Departure.lateStores }, { on := 9, ground := Ground.textOnly Departure.lateStoresUnsure }, { on := 10, ground := Ground.phase }, { on := 11, ground := Ground.phase }], guard := none }) rfl (fun K hK => ?_) AllReadyH.nil)
                          (have GC := Lib.hid (G9.out); have f0 := (GC.out).cell 5 0 rfl rfl; have f1 := (GC.out).cell 5 1 rfl rfl; have f2 := (GC.out).frozenBox 5 0 rfl; have f3 := (GC.out).frozenBox 5 1 rfl; have H12 := Lib.hid (((GC.out).setBox 5 0 (.slice Sa na ca) rfl).setBox 5 1 (.slice Da ma da) rfl); have c37_0 := H12.out.oldCell (p := ⟨gl, i, none⟩) hgl4 (HC.out i _ HV.out); have c37_1 := H12.out.oldCell (p := ⟨gl, k, none⟩) hgl4 (HC.out k _ HV2.out))
                          go_simp
                          try go_wp2_with fail
                          refine hK.out _ _ ?_ (fun hHeld2 => ?_)
                          · first | assumption | (exact ⟨c37_0, c37_1⟩)
                          clear hK K hHeld
                          have hHeld := hHeld2; clear hHeld2
                          try simp only [Act.put, List.setIfInBounds_toArray, List.set_cons_zero, List.set_cons_succ]
                          refine wpAnyH_ready (rs := [13]) (by kernel_rfl) (by simp) ?_
                          refine (AllReadyH.cons (o := { dst := none, op := Op.store 26 (Operand.tmp 6) (Operand.tmp 45), type := 0, pos := "law.go:35", after := #[{ on := 11, ground := Ground.data }, { on := 9, ground := Ground.data }, { on := 12, ground := Ground.chain }, { on := 0, ground := Ground.phase }, { on := 1, ground := Ground.phase }, { on := 2, ground := Ground.phase }, { on := 3, ground := Ground.phase }, { on := 4, ground := Ground.phase }, { on := 5, ground := Ground.phase }, { on := 6, ground := Ground.phase }, { on := 7, ground := Ground.phase }, { on := 8, ground := Ground.phase }, { on := 9, ground := Ground.phase }, { on := 10, ground := Ground.phase }, { on := 11, ground := Ground.phase }, { on := 12, ground := Ground.phase }], guard := none }) rfl (fun K hK => ?_) AllReadyH.nil)
                          (have h0 := (H12.out).cell 2 0 rfl rfl; have h1 := (H12.out).cell 2 1 rfl rfl; have h2 := (H12.out).frozenBox 2 0 rfl; have h3 := (H12.out).frozenBox 2 1 rfl; have H13 := Lib.hid (((H12.out).setBox 2 0 (.slice Sb nb cb) rfl).setBox 2 1 (.slice Db mb db) rfl); have HF := Lib.hid (H13.out.sub (l' := [.box (v3.heap.size) 26 [.slice Sa na ca, .slice Da ma da], .box (x4.heap.size) 26 [.slice Sb nb cb, .slice Db mb db], .own 3 (.slice Sa na ca) na xs, .own 2 (.slice Da ma da) ma (List.replicate (Sh.size xs).toNat 0), .own 3 (.slice Sb nb cb) nb ys, .own 2 (.slice Db mb db) mb (List.replicate (Sh.size ys).toNat 0)]) [5, 2, 3, 4, 0, 1] rfl (by decide)); have c38_0 := H13.out.oldCell (p := ⟨gl, i, none⟩) hgl4 (HC.out i _ HV.out); have c38_1 := H13.out.oldCell (p := ⟨gl, k, none⟩) hgl4 (HC.out k _ HV2.out))
                          go_simp
                          try go_wp2_with fail
                          refine hK.out _ _ ?_ (fun hHeld2 => ?_)
                          · first | assumption | (exact ⟨c38_0, c38_1⟩)
                          clear hK K hHeld
                          have hHeld := hHeld2; clear hHeld2
                          try simp only [Act.put, List.setIfInBounds_toArray, List.set_cons_zero, List.set_cons_succ]
                          refine wpAnyH_done (by kernel_rfl) ?_ _
                          go_wp2_with fail
                          go_meet
                          exact ⟨_, _, Sa, Da, Sb, Db, na, ca, ma, da, nb, cb, mb, db, _, _, rfl, rfl, hma, hmb, HF.out⟩
                    · as_aux_lemma =>
                        (have GA := Lib.hid ((((H.out).allocBox (v3.heap.size) 26 [.slice none 0 0, .slice none 0 0] rfl).allocBox (v3.heap.size + 1) 26 [.slice none 0 0, .slice none 0 0] (by simp)).drew); have c39_0 := GA.out.oldCell (p := ⟨gl, i, none⟩) hgl4 (HC.out i _ HV.out); have c39_1 := GA.out.oldCell (p := ⟨gl, k, none⟩) hgl4 (HC.out k _ HV2.out))
                        go_simp
                        try go_wp2_with fail
                        refine hK.out _ _ ?_ (fun hHeld2 => ?_)
                        · first | assumption | (exact ⟨c39_0, c39_1⟩)
                        clear hK K hHeld
                        have hHeld := hHeld2; clear hHeld2
                        try simp only [Act.put, List.setIfInBounds_toArray, List.set_cons_zero, List.set_cons_succ]
                        refine wpAnyH_ready (rs := [4]) (by kernel_rfl) (by simp) ?_
                        refine (AllReadyH.cons (o := { dst := some 40, op := Op.call { callee := Callee.value (Operand.func 7), args := #[Operand.tmp 39, Operand.const (Value.int IntKind.i64 0)], argTypes := #[22, 2] }, type := 26, pos := "law.go:35", after := #[{ on := 3, ground := Ground.data }], guard := none }) rfl (fun K hK => ?_) AllReadyH.nil)
                        first | (refine effU ?_ ?_; (focus rfl)) | (go_simp; (go_at_call 7; have GB := Lib.hid ((((H.out).allocBox (v3.heap.size) 26 [.slice none 0 0, .slice none 0 0] rfl).allocBox (v3.heap.size + 1) 26 [.slice none 0 0, .slice none 0 0] (by simp)).drew); refine (refFill_any 0 (GB.out.oldI HI.out) (by omega) ⟨by omega, by omega⟩).mono ?_; rintro e5 x4 ⟨⟨u, rfl, hu⟩, hb⟩; obtain ⟨Sa, na, ca, Da, ma, da, rfl, _, hd, _, _, _, h5⟩ := GB.out.addTen hb hu; have hma : ma ≤ 4096 := (by have := (Sh.size_bd xs).2; rw [List.length_replicate] at hd; omega); have G4 := Lib.hid h5; have c40_0 := G4.out.oldCell (p := ⟨gl, i, none⟩) hgl4 (HC.out i _ HV.out); have c40_1 := G4.out.oldCell (p := ⟨gl, k, none⟩) hgl4 (HC.out k _ HV2.out); clear hu hb h5 hd GB); go_wp2_with fail)
                        refine hK.out _ _ ?_ (fun hHeld2 => ?_)
                        · first | assumption | (exact ⟨c40_0, c40_1⟩)
                        clear hK K hHeld
                        have hHeld := hHeld2; clear hHeld2
                        try simp only [Act.put, List.setIfInBounds_toArray, List.set_cons_zero, List.set_cons_succ]
                        refine wpAnyH_ready (rs := [9]) (by kernel_rfl) (by simp) ?_
                        refine (AllReadyH.cons (o := { dst := some 45, op := Op.call { callee := Callee.value (Operand.func 7), args := #[Operand.tmp 44, Operand.const (Value.int IntKind.i64 0)], argTypes := #[22, 2] }, type := 26, pos := "law.go:35", after := #[{ on := 8, ground := Ground.data }, { on := 4, ground := Ground.chain }], guard := none }) rfl (fun K hK => ?_) AllReadyH.nil)
                        first | (refine effU ?_ ?_; (focus rfl)) | (go_simp; (go_at_call 7; have GB := Lib.hid (G4.out); refine (refFill_any 0 (GB.out.oldI HI2.out) (by omega) ⟨by omega, by omega⟩).mono ?_; rintro e5 x9 ⟨⟨u, rfl, hu⟩, hb⟩; obtain ⟨Sb, nb, cb, Db, mb, db, rfl, _, hd, _, _, _, h5⟩ := GB.out.addTen hb hu; have hmb : mb ≤ 4096 := (by have := (Sh.size_bd ys).2; rw [List.length_replicate] at hd; omega); have G9 := Lib.hid h5; have c41_0 := G9.out.oldCell (p := ⟨gl, i, none⟩) hgl4 (HC.out i _ HV.out); have c41_1 := G9.out.oldCell (p := ⟨gl, k, none⟩) hgl4 (HC.out k _ HV2.out); clear hu hb h5 hd GB); go_wp2_with fail)
                        refine hK.out _ _ ?_ (fun hHeld2 => ?_)
                        · first | assumption | (exact ⟨c41_0, c41_1⟩)
                        clear hK K hHeld
                        have hHeld := hHeld2; clear hHeld2
                        try simp only [Act.put, List.setIfInBounds_toArray, List.set_cons_zero, List.set_cons_succ]
                        refine wpAnyH_ready (rs := [12]) (by kernel_rfl) (by simp) ?_
                        refine (AllReadyH.cons (o := { dst := none, op := Op.store 26 (Operand.tmp 5) (Operand.tmp 40), type := 0, pos := "law.go:35", after := #[{ on := 10, ground := Ground.data }, { on := 4, ground := Ground.data }, { on := 9, ground := Ground.chain }, { on := 0, ground := Ground.phase }, { on := 1, ground := Ground.phase }, { on := 2, ground := Ground.phase }, { on := 3, ground := Ground.phase }, { on := 4, ground := Ground.phase }, { on := 5, ground := Ground.textOnly Departure.lateStores }, { on := 6, ground := Ground.textOnly Departure.lateStores }, { on := 7, ground := Ground.textOnly Departure.lateStores }, { on := 8, ground := Ground.textOnly Departure.lateStores }, { on := 9, ground := Ground.textOnly Departure.lateStoresUnsure }, { on := 10, ground := Ground.phase }, { on := 11, ground := Ground.phase }], guard := none }) rfl (fun K hK => ?_) AllReadyH.nil)
                        (have GC := Lib.hid (G9.out); have f0 := (GC.out).cell 5 0 rfl rfl; have f1 := (GC.out).cell 5 1 rfl rfl; have f2 := (GC.out).frozenBox 5 0 rfl; have f3 := (GC.out).frozenBox 5 1 rfl; have H12 := Lib.hid (((GC.out).setBox 5 0 (.slice Sa na ca) rfl).setBox 5 1 (.slice Da ma da) rfl); have c42_0 := H12.out.oldCell (p := ⟨gl, i, none⟩) hgl4 (HC.out i _ HV.out); have c42_1 := H12.out.oldCell (p := ⟨gl, k, none⟩) hgl4 (HC.out k _ HV2.out))
                        go_simp
                        try go_wp2_with fail
                        refine hK.out _ _ ?_ (fun hHeld2 => ?_)
                        · first | assumption | (exact ⟨c42_0, c42_1⟩)
                        clear hK K hHeld
                        have hHeld := hHeld2; clear hHeld2
                        try simp only [Act.put, List.setIfInBounds_toArray, List.set_cons_zero, List.set_cons_succ]
                        refine wpAnyH_ready (rs := [13]) (by kernel_rfl) (by simp) ?_
                        refine (AllReadyH.cons (o := { dst := none, op := Op.store 26 (Operand.tmp 6) (Operand.tmp 45), type := 0, pos := "law.go:35", after := #[{ on := 11, ground := Ground.data }, { on := 9, ground := Ground.data }, { on := 12, ground := Ground.chain }, { on := 0, ground := Ground.phase }, { on := 1, ground := Ground.phase }, { on := 2, ground := Ground.phase }, { on := 3, ground := Ground.phase }, { on := 4, ground := Ground.phase }, { on := 5, ground := Ground.phase }, { on := 6, ground := Ground.phase }, { on := 7, ground := Ground.phase }, { on := 8, ground := Ground.phase }, { on := 9, ground := Ground.phase }, { on := 10, ground := Ground.phase }, { on := 11, ground := Ground.phase }, { on := 12, ground := Ground.phase }], guard := none }) rfl (fun K hK => ?_) AllReadyH.nil)
                        (have h0 := (H12.out).cell 4 0 rfl rfl; have h1 := (H12.out).cell 4 1 rfl rfl; have h2 := (H12.out).frozenBox 4 0 rfl; have h3 := (H12.out).frozenBox 4 1 rfl; have H13 := Lib.hid (((H12.out).setBox 4 0 (.slice Sb nb cb) rfl).setBox 4 1 (.slice Db mb db) rfl); have HF := Lib.hid (H13.out.sub (l' := [.box (v3.heap.size) 26 [.slice Sa na ca, .slice Da ma da], .box (v3.heap.size + 1) 26 [.slice Sb nb cb, .slice Db mb db], .own 3 (.slice Sa na ca) na xs, .own 2 (.slice Da ma da) ma (List.replicate (Sh.size xs).toNat 0), .own 3 (.slice Sb nb cb) nb ys, .own 2 (.slice Db mb db) mb (List.replicate (Sh.size ys).toNat 0)]) [5, 4, 2, 3, 0, 1] rfl (by decide)); have c43_0 := H13.out.oldCell (p := ⟨gl, i, none⟩) hgl4 (HC.out i _ HV.out); have c43_1 := H13.out.oldCell (p := ⟨gl, k, none⟩) hgl4 (HC.out k _ HV2.out))
                        go_simp
                        try go_wp2_with fail
                        refine hK.out _ _ ?_ (fun hHeld2 => ?_)
                        · first | assumption | (exact ⟨c43_0, c43_1⟩)
                        clear hK K hHeld
                        have hHeld := hHeld2; clear hHeld2
                        try simp only [Act.put, List.setIfInBounds_toArray, List.set_cons_zero, List.set_cons_succ]
                        refine wpAnyH_done (by kernel_rfl) ?_ _
                        go_wp2_with fail
                        go_meet
                        exact ⟨_, _, Sa, Da, Sb, Db, na, ca, ma, da, nb, cb, mb, db, _, _, rfl, rfl, hma, hmb, HF.out⟩
                · as_aux_lemma =>
                    (have GA := Lib.hid (((H.out).allocBox (v3.heap.size) 26 [.slice none 0 0, .slice none 0 0] rfl).drew); have c44_0 := GA.out.oldCell (p := ⟨gl, i, none⟩) hgl4 (HC.out i _ HV.out); have c44_1 := GA.out.oldCell (p := ⟨gl, k, none⟩) hgl4 (HC.out k _ HV2.out))
                    go_simp
                    try go_wp2_with fail
                    refine hK.out _ _ ?_ (fun hHeld2 => ?_)
                    · first | assumption | (exact ⟨c44_0, c44_1⟩)
                    clear hK K hHeld
                    have hHeld := hHeld2; clear hHeld2
                    try simp only [Act.put, List.setIfInBounds_toArray, List.set_cons_zero, List.set_cons_succ]
                    refine wpAnyH_ready (rs := [4, 10]) (by kernel_rfl) (by simp) ?_
                    refine (AllReadyH.cons (o := { dst := some 40, op := Op.call { callee := Callee.value (Operand.func 7), args := #[Operand.tmp 39, Operand.const (Value.int IntKind.i64 0)], argTypes := #[22, 2] }, type := 26, pos := "law.go:35", after := #[{ on := 3, ground := Ground.data }], guard := none }) rfl (fun K hK => ?_) (AllReadyH.cons (o := { dst := some 5, op := Op.alloc 26, type := 0, pos := "law.go:35", after := #[], guard := none }) rfl (fun K hK => ?_) AllReadyH.nil))
                    · as_aux_lemma =>
                        first | (refine effU ?_ ?_; (focus rfl)) | (go_simp; (go_at_call 7; have GB := Lib.hid (((H.out).allocBox (v3.heap.size) 26 [.slice none 0 0, .slice none 0 0] rfl).drew); refine (refFill_any 0 (GB.out.oldI HI.out) (by omega) ⟨by omega, by omega⟩).mono ?_; rintro e5 x4 ⟨⟨u, rfl, hu⟩, hb⟩; obtain ⟨Sa, na, ca, Da, ma, da, rfl, _, hd, _, _, _, h5⟩ := GB.out.addTen hb hu; have hma : ma ≤ 4096 := (by have := (Sh.size_bd xs).2; rw [List.length_replicate] at hd; omega); have G4 := Lib.hid h5; have c45_0 := G4.out.oldCell (p := ⟨gl, i, none⟩) hgl4 (HC.out i _ HV.out); have c45_1 := G4.out.oldCell (p := ⟨gl, k, none⟩) hgl4 (HC.out k _ HV2.out); clear hu hb h5 hd GB); go_wp2_with fail)
                        refine hK.out _ _ ?_ (fun hHeld2 => ?_)
                        · first | assumption | (exact ⟨c45_0, c45_1⟩)
                        clear hK K hHeld
                        have hHeld := hHeld2; clear hHeld2
                        try simp only [Act.put, List.setIfInBounds_toArray, List.set_cons_zero, List.set_cons_succ]
                        refine wpAnyH_ready (rs := [9, 10]) (by kernel_rfl) (by simp) ?_
                        refine (AllReadyH.cons (o := { dst := some 45, op := Op.call { callee := Callee.value (Operand.func 7), args := #[Operand.tmp 44, Operand.const (Value.int IntKind.i64 0)], argTypes := #[22, 2] }, type := 26, pos := "law.go:35", after := #[{ on := 8, ground := Ground.data }, { on := 4, ground := Ground.chain }], guard := none }) rfl (fun K hK => ?_) (AllReadyH.cons (o := { dst := some 5, op := Op.alloc 26, type := 0, pos := "law.go:35", after := #[], guard := none }) rfl (fun K hK => ?_) AllReadyH.nil))
                        · first | (refine effU ?_ ?_; (focus rfl)) | (go_simp; (go_at_call 7; have GB := Lib.hid (G4.out); refine (refFill_any 0 (GB.out.oldI HI2.out) (by omega) ⟨by omega, by omega⟩).mono ?_; rintro e5 x9 ⟨⟨u, rfl, hu⟩, hb⟩; obtain ⟨Sb, nb, cb, Db, mb, db, rfl, _, hd, _, _, _, h5⟩ := GB.out.addTen hb hu; have hmb : mb ≤ 4096 := (by have := (Sh.size_bd ys).2; rw [List.length_replicate] at hd; omega); have G9 := Lib.hid h5; have c46_0 := G9.out.oldCell (p := ⟨gl, i, none⟩) hgl4 (HC.out i _ HV.out); have c46_1 := G9.out.oldCell (p := ⟨gl, k, none⟩) hgl4 (HC.out k _ HV2.out); clear hu hb h5 hd GB); go_wp2_with fail)
                          refine hK.out _ _ ?_ (fun hHeld2 => ?_)
                          · first | assumption | (exact ⟨c46_0, c46_1⟩)
                          clear hK K hHeld
                          have hHeld := hHeld2; clear hHeld2
                          try simp only [Act.put, List.setIfInBounds_toArray, List.set_cons_zero, List.set_cons_succ]
                          refine wpAnyH_ready (rs := [10]) (by kernel_rfl) (by simp) ?_
                          refine (AllReadyH.cons (o := { dst := some 5, op := Op.alloc 26, type := 0, pos := "law.go:35", after := #[], guard := none }) rfl (fun K hK => ?_) AllReadyH.nil)
                          (have GA := Lib.hid ((G9.out).allocBox (x9.heap.size) 26 [.slice none 0 0, .slice none 0 0] rfl); have c47_0 := GA.out.oldCell (p := ⟨gl, i, none⟩) hgl4 (HC.out i _ HV.out); have c47_1 := GA.out.oldCell (p := ⟨gl, k, none⟩) hgl4 (HC.out k _ HV2.out))
                          go_simp
                          try go_wp2_with fail
                          refine hK.out _ _ ?_ (fun hHeld2 => ?_)
                          · first | assumption | (exact ⟨c47_0, c47_1⟩)
                          clear hK K hHeld
                          have hHeld := hHeld2; clear hHeld2
                          try simp only [Act.put, List.setIfInBounds_toArray, List.set_cons_zero, List.set_cons_succ]
                          refine wpAnyH_ready (rs := [12]) (by kernel_rfl) (by simp) ?_
                          refine (AllReadyH.cons (o := { dst := none, op := Op.store 26 (Operand.tmp 5) (Operand.tmp 40), type := 0, pos := "law.go:35", after := #[{ on := 10, ground := Ground.data }, { on := 4, ground := Ground.data }, { on := 9, ground := Ground.chain }, { on := 0, ground := Ground.phase }, { on := 1, ground := Ground.phase }, { on := 2, ground := Ground.phase }, { on := 3, ground := Ground.phase }, { on := 4, ground := Ground.phase }, { on := 5, ground := Ground.textOnly Departure.lateStores }, { on := 6, ground := Ground.textOnly Departure.lateStores }, { on := 7, ground := Ground.textOnly Departure.lateStores }, { on := 8, ground := Ground.textOnly Departure.lateStores }, { on := 9, ground := Ground.textOnly Departure.lateStoresUnsure }, { on := 10, ground := Ground.phase }, { on := 11, ground := Ground.phase }], guard := none }) rfl (fun K hK => ?_) AllReadyH.nil)
                          (have H12 := Lib.hid ((G9.out).allocBox (x9.heap.size) 26 [.slice Sa na ca, .slice Da ma da] rfl); have c48_0 := H12.out.oldCell (p := ⟨gl, i, none⟩) hgl4 (HC.out i _ HV.out); have c48_1 := H12.out.oldCell (p := ⟨gl, k, none⟩) hgl4 (HC.out k _ HV2.out))
                          go_simp
                          try go_wp2_with fail
                          refine hK.out _ _ ?_ (fun hHeld2 => ?_)
                          · first | assumption | (exact ⟨c48_0, c48_1⟩)
                          clear hK K hHeld
                          have hHeld := hHeld2; clear hHeld2
                          try simp only [Act.put, List.setIfInBounds_toArray, List.set_cons_zero, List.set_cons_succ]
                          refine wpAnyH_ready (rs := [13]) (by kernel_rfl) (by simp) ?_
                          refine (AllReadyH.cons (o := { dst := none, op := Op.store 26 (Operand.tmp 6) (Operand.tmp 45), type := 0, pos := "law.go:35", after := #[{ on := 11, ground := Ground.data }, { on := 9, ground := Ground.data }, { on := 12, ground := Ground.chain }, { on := 0, ground := Ground.phase }, { on := 1, ground := Ground.phase }, { on := 2, ground := Ground.phase }, { on := 3, ground := Ground.phase }, { on := 4, ground := Ground.phase }, { on := 5, ground := Ground.phase }, { on := 6, ground := Ground.phase }, { on := 7, ground := Ground.phase }, { on := 8, ground := Ground.phase }, { on := 9, ground := Ground.phase }, { on := 10, ground := Ground.phase }, { on := 11, ground := Ground.phase }, { on := 12, ground := Ground.phase }], guard := none }) rfl (fun K hK => ?_) AllReadyH.nil)
                          (have h0 := (H12.out).cell 5 0 rfl rfl; have h1 := (H12.out).cell 5 1 rfl rfl; have h2 := (H12.out).frozenBox 5 0 rfl; have h3 := (H12.out).frozenBox 5 1 rfl; have H13 := Lib.hid (((H12.out).setBox 5 0 (.slice Sb nb cb) rfl).setBox 5 1 (.slice Db mb db) rfl); have HF := Lib.hid (H13.out.sub (l' := [.box (x9.heap.size) 26 [.slice Sa na ca, .slice Da ma da], .box (v3.heap.size) 26 [.slice Sb nb cb, .slice Db mb db], .own 3 (.slice Sa na ca) na xs, .own 2 (.slice Da ma da) ma (List.replicate (Sh.size xs).toNat 0), .own 3 (.slice Sb nb cb) nb ys, .own 2 (.slice Db mb db) mb (List.replicate (Sh.size ys).toNat 0)]) [0, 5, 3, 4, 1, 2] rfl (by decide)); have c49_0 := H13.out.oldCell (p := ⟨gl, i, none⟩) hgl4 (HC.out i _ HV.out); have c49_1 := H13.out.oldCell (p := ⟨gl, k, none⟩) hgl4 (HC.out k _ HV2.out))
                          go_simp
                          try go_wp2_with fail
                          refine hK.out _ _ ?_ (fun hHeld2 => ?_)
                          · first | assumption | (exact ⟨c49_0, c49_1⟩)
                          clear hK K hHeld
                          have hHeld := hHeld2; clear hHeld2
                          try simp only [Act.put, List.setIfInBounds_toArray, List.set_cons_zero, List.set_cons_succ]
                          refine wpAnyH_done (by kernel_rfl) ?_ _
                          go_wp2_with fail
                          go_meet
                          exact ⟨_, _, Sa, Da, Sb, Db, na, ca, ma, da, nb, cb, mb, db, _, _, rfl, rfl, hma, hmb, HF.out⟩
                        · (have GA := Lib.hid ((G4.out).allocBox (x4.heap.size) 26 [.slice none 0 0, .slice none 0 0] rfl); have c50_0 := GA.out.oldCell (p := ⟨gl, i, none⟩) hgl4 (HC.out i _ HV.out); have c50_1 := GA.out.oldCell (p := ⟨gl, k, none⟩) hgl4 (HC.out k _ HV2.out))
                          go_simp
                          try go_wp2_with fail
                          refine hK.out _ _ ?_ (fun hHeld2 => ?_)
                          · first | assumption | (exact ⟨c50_0, c50_1⟩)
                          clear hK K hHeld
                          have hHeld := hHeld2; clear hHeld2
                          try simp only [Act.put, List.setIfInBounds_toArray, List.set_cons_zero, List.set_cons_succ]
                          refine wpAnyH_ready (rs := [9]) (by kernel_rfl) (by simp) ?_
                          refine (AllReadyH.cons (o := { dst := some 45, op := Op.call { callee := Callee.value (Operand.func 7), args := #[Operand.tmp 44, Operand.const (Value.int IntKind.i64 0)], argTypes := #[22, 2] }, type := 26, pos := "law.go:35", after := #[{ on := 8, ground := Ground.data }, { on := 4, ground := Ground.chain }], guard := none }) rfl (fun K hK => ?_) AllReadyH.nil)
                          first | (refine effU ?_ ?_; (focus rfl)) | (go_simp; (go_at_call 7; have GB := Lib.hid ((G4.out).allocBox (x4.heap.size) 26 [.slice none 0 0, .slice none 0 0] rfl); refine (refFill_any 0 (GB.out.oldI HI2.out) (by omega) ⟨by omega, by omega⟩).mono ?_; rintro e5 x9 ⟨⟨u, rfl, hu⟩, hb⟩; obtain ⟨Sb, nb, cb, Db, mb, db, rfl, _, hd, _, _, _, h5⟩ := GB.out.addTen hb hu; have hmb : mb ≤ 4096 := (by have := (Sh.size_bd ys).2; rw [List.length_replicate] at hd; omega); have G9 := Lib.hid h5; have c51_0 := G9.out.oldCell (p := ⟨gl, i, none⟩) hgl4 (HC.out i _ HV.out); have c51_1 := G9.out.oldCell (p := ⟨gl, k, none⟩) hgl4 (HC.out k _ HV2.out); clear hu hb h5 hd GB); go_wp2_with fail)
                          refine hK.out _ _ ?_ (fun hHeld2 => ?_)
                          · first | assumption | (exact ⟨c51_0, c51_1⟩)
                          clear hK K hHeld
                          have hHeld := hHeld2; clear hHeld2
                          try simp only [Act.put, List.setIfInBounds_toArray, List.set_cons_zero, List.set_cons_succ]
                          refine wpAnyH_ready (rs := [12]) (by kernel_rfl) (by simp) ?_
                          refine (AllReadyH.cons (o := { dst := none, op := Op.store 26 (Operand.tmp 5) (Operand.tmp 40), type := 0, pos := "law.go:35", after := #[{ on := 10, ground := Ground.data }, { on := 4, ground := Ground.data }, { on := 9, ground := Ground.chain }, { on := 0, ground := Ground.phase }, { on := 1, ground := Ground.phase }, { on := 2, ground := Ground.phase }, { on := 3, ground := Ground.phase }, { on := 4, ground := Ground.phase }, { on := 5, ground := Ground.textOnly Departure.lateStores }, { on := 6, ground := Ground.textOnly Departure.lateStores }, { on := 7, ground := Ground.textOnly Departure.lateStores }, { on := 8, ground := Ground.textOnly Departure.lateStores }, { on := 9, ground := Ground.textOnly Departure.lateStoresUnsure }, { on := 10, ground := Ground.phase }, { on := 11, ground := Ground.phase }], guard := none }) rfl (fun K hK => ?_) AllReadyH.nil)
                          (have GC := Lib.hid (G9.out); have f0 := (GC.out).cell 2 0 rfl rfl; have f1 := (GC.out).cell 2 1 rfl rfl; have f2 := (GC.out).frozenBox 2 0 rfl; have f3 := (GC.out).frozenBox 2 1 rfl; have H12 := Lib.hid (((GC.out).setBox 2 0 (.slice Sa na ca) rfl).setBox 2 1 (.slice Da ma da) rfl); have c52_0 := H12.out.oldCell (p := ⟨gl, i, none⟩) hgl4 (HC.out i _ HV.out); have c52_1 := H12.out.oldCell (p := ⟨gl, k, none⟩) hgl4 (HC.out k _ HV2.out))
                          go_simp
                          try go_wp2_with fail
                          refine hK.out _ _ ?_ (fun hHeld2 => ?_)
                          · first | assumption | (exact ⟨c52_0, c52_1⟩)
                          clear hK K hHeld
                          have hHeld := hHeld2; clear hHeld2
                          try simp only [Act.put, List.setIfInBounds_toArray, List.set_cons_zero, List.set_cons_succ]
                          refine wpAnyH_ready (rs := [13]) (by kernel_rfl) (by simp) ?_
                          refine (AllReadyH.cons (o := { dst := none, op := Op.store 26 (Operand.tmp 6) (Operand.tmp 45), type := 0, pos := "law.go:35", after := #[{ on := 11, ground := Ground.data }, { on := 9, ground := Ground.data }, { on := 12, ground := Ground.chain }, { on := 0, ground := Ground.phase }, { on := 1, ground := Ground.phase }, { on := 2, ground := Ground.phase }, { on := 3, ground := Ground.phase }, { on := 4, ground := Ground.phase }, { on := 5, ground := Ground.phase }, { on := 6, ground := Ground.phase }, { on := 7, ground := Ground.phase }, { on := 8, ground := Ground.phase }, { on := 9, ground := Ground.phase }, { on := 10, ground := Ground.phase }, { on := 11, ground := Ground.phase }, { on := 12, ground := Ground.phase }], guard := none }) rfl (fun K hK => ?_) AllReadyH.nil)
                          (have h0 := (H12.out).cell 5 0 rfl rfl; have h1 := (H12.out).cell 5 1 rfl rfl; have h2 := (H12.out).frozenBox 5 0 rfl; have h3 := (H12.out).frozenBox 5 1 rfl; have H13 := Lib.hid (((H12.out).setBox 5 0 (.slice Sb nb cb) rfl).setBox 5 1 (.slice Db mb db) rfl); have HF := Lib.hid (H13.out.sub (l' := [.box (x4.heap.size) 26 [.slice Sa na ca, .slice Da ma da], .box (v3.heap.size) 26 [.slice Sb nb cb, .slice Db mb db], .own 3 (.slice Sa na ca) na xs, .own 2 (.slice Da ma da) ma (List.replicate (Sh.size xs).toNat 0), .own 3 (.slice Sb nb cb) nb ys, .own 2 (.slice Db mb db) mb (List.replicate (Sh.size ys).toNat 0)]) [2, 5, 3, 4, 0, 1] rfl (by decide)); have c53_0 := H13.out.oldCell (p := ⟨gl, i, none⟩) hgl4 (HC.out i _ HV.out); have c53_1 := H13.out.oldCell (p := ⟨gl, k, none⟩) hgl4 (HC.out k _ HV2.out))
                          go_simp
                          try go_wp2_with fail
                          refine hK.out _ _ ?_ (fun hHeld2 => ?_)
                          · first | assumption | (exact ⟨c53_0, c53_1⟩)
                          clear hK K hHeld
                          have hHeld := hHeld2; clear hHeld2
                          try simp only [Act.put, List.setIfInBounds_toArray, List.set_cons_zero, List.set_cons_succ]
                          refine wpAnyH_done (by kernel_rfl) ?_ _
                          go_wp2_with fail
                          go_meet
                          exact ⟨_, _, Sa, Da, Sb, Db, na, ca, ma, da, nb, cb, mb, db, _, _, rfl, rfl, hma, hmb, HF.out⟩
                    · as_aux_lemma =>
                        (have GA := Lib.hid ((((H.out).allocBox (v3.heap.size) 26 [.slice none 0 0, .slice none 0 0] rfl).allocBox (v3.heap.size + 1) 26 [.slice none 0 0, .slice none 0 0] (by simp)).drew); have c54_0 := GA.out.oldCell (p := ⟨gl, i, none⟩) hgl4 (HC.out i _ HV.out); have c54_1 := GA.out.oldCell (p := ⟨gl, k, none⟩) hgl4 (HC.out k _ HV2.out))
                        go_simp
                        try go_wp2_with fail
                        refine hK.out _ _ ?_ (fun hHeld2 => ?_)
                        · first | assumption | (exact ⟨c54_0, c54_1⟩)
                        clear hK K hHeld
                        have hHeld := hHeld2; clear hHeld2
                        try simp only [Act.put, List.setIfInBounds_toArray, List.set_cons_zero, List.set_cons_succ]
                        refine wpAnyH_ready (rs := [4]) (by kernel_rfl) (by simp) ?_
                        refine (AllReadyH.cons (o := { dst := some 40, op := Op.call { callee := Callee.value (Operand.func 7), args := #[Operand.tmp 39, Operand.const (Value.int IntKind.i64 0)], argTypes := #[22, 2] }, type := 26, pos := "law.go:35", after := #[{ on := 3, ground := Ground.data }], guard := none }) rfl (fun K hK => ?_) AllReadyH.nil)
                        first | (refine effU ?_ ?_; (focus rfl)) | (go_simp; (go_at_call 7; have GB := Lib.hid ((((H.out).allocBox (v3.heap.size) 26 [.slice none 0 0, .slice none 0 0] rfl).allocBox (v3.heap.size + 1) 26 [.slice none 0 0, .slice none 0 0] (by simp)).drew); refine (refFill_any 0 (GB.out.oldI HI.out) (by omega) ⟨by omega, by omega⟩).mono ?_; rintro e5 x4 ⟨⟨u, rfl, hu⟩, hb⟩; obtain ⟨Sa, na, ca, Da, ma, da, rfl, _, hd, _, _, _, h5⟩ := GB.out.addTen hb hu; have hma : ma ≤ 4096 := (by have := (Sh.size_bd xs).2; rw [List.length_replicate] at hd; omega); have G4 := Lib.hid h5; have c55_0 := G4.out.oldCell (p := ⟨gl, i, none⟩) hgl4 (HC.out i _ HV.out); have c55_1 := G4.out.oldCell (p := ⟨gl, k, none⟩) hgl4 (HC.out k _ HV2.out); clear hu hb h5 hd GB); go_wp2_with fail)
                        refine hK.out _ _ ?_ (fun hHeld2 => ?_)
                        · first | assumption | (exact ⟨c55_0, c55_1⟩)
                        clear hK K hHeld
                        have hHeld := hHeld2; clear hHeld2
                        try simp only [Act.put, List.setIfInBounds_toArray, List.set_cons_zero, List.set_cons_succ]
                        refine wpAnyH_ready (rs := [9]) (by kernel_rfl) (by simp) ?_
                        refine (AllReadyH.cons (o := { dst := some 45, op := Op.call { callee := Callee.value (Operand.func 7), args := #[Operand.tmp 44, Operand.const (Value.int IntKind.i64 0)], argTypes := #[22, 2] }, type := 26, pos := "law.go:35", after := #[{ on := 8, ground := Ground.data }, { on := 4, ground := Ground.chain }], guard := none }) rfl (fun K hK => ?_) AllReadyH.nil)
                        first | (refine effU ?_ ?_; (focus rfl)) | (go_simp; (go_at_call 7; have GB := Lib.hid (G4.out); refine (refFill_any 0 (GB.out.oldI HI2.out) (by omega) ⟨by omega, by omega⟩).mono ?_; rintro e5 x9 ⟨⟨u, rfl, hu⟩, hb⟩; obtain ⟨Sb, nb, cb, Db, mb, db, rfl, _, hd, _, _, _, h5⟩ := GB.out.addTen hb hu; have hmb : mb ≤ 4096 := (by have := (Sh.size_bd ys).2; rw [List.length_replicate] at hd; omega); have G9 := Lib.hid h5; have c56_0 := G9.out.oldCell (p := ⟨gl, i, none⟩) hgl4 (HC.out i _ HV.out); have c56_1 := G9.out.oldCell (p := ⟨gl, k, none⟩) hgl4 (HC.out k _ HV2.out); clear hu hb h5 hd GB); go_wp2_with fail)
                        refine hK.out _ _ ?_ (fun hHeld2 => ?_)
                        · first | assumption | (exact ⟨c56_0, c56_1⟩)
                        clear hK K hHeld
                        have hHeld := hHeld2; clear hHeld2
                        try simp only [Act.put, List.setIfInBounds_toArray, List.set_cons_zero, List.set_cons_succ]
                        refine wpAnyH_ready (rs := [12]) (by kernel_rfl) (by simp) ?_
                        refine (AllReadyH.cons (o := { dst := none, op := Op.store 26 (Operand.tmp 5) (Operand.tmp 40), type := 0, pos := "law.go:35", after := #[{ on := 10, ground := Ground.data }, { on := 4, ground := Ground.data }, { on := 9, ground := Ground.chain }, { on := 0, ground := Ground.phase }, { on := 1, ground := Ground.phase }, { on := 2, ground := Ground.phase }, { on := 3, ground := Ground.phase }, { on := 4, ground := Ground.phase }, { on := 5, ground := Ground.textOnly Departure.lateStores }, { on := 6, ground := Ground.textOnly Departure.lateStores }, { on := 7, ground := Ground.textOnly Departure.lateStores }, { on := 8, ground := Ground.textOnly Departure.lateStores }, { on := 9, ground := Ground.textOnly Departure.lateStoresUnsure }, { on := 10, ground := Ground.phase }, { on := 11, ground := Ground.phase }], guard := none }) rfl (fun K hK => ?_) AllReadyH.nil)
                        (have GC := Lib.hid (G9.out); have f0 := (GC.out).cell 4 0 rfl rfl; have f1 := (GC.out).cell 4 1 rfl rfl; have f2 := (GC.out).frozenBox 4 0 rfl; have f3 := (GC.out).frozenBox 4 1 rfl; have H12 := Lib.hid (((GC.out).setBox 4 0 (.slice Sa na ca) rfl).setBox 4 1 (.slice Da ma da) rfl); have c57_0 := H12.out.oldCell (p := ⟨gl, i, none⟩) hgl4 (HC.out i _ HV.out); have c57_1 := H12.out.oldCell (p := ⟨gl, k, none⟩) hgl4 (HC.out k _ HV2.out))
                        go_simp
                        try go_wp2_with fail
                        refine hK.out _ _ ?_ (fun hHeld2 => ?_)
                        · first | assumption | (exact ⟨c57_0, c57_1⟩)
                        clear hK K hHeld
                        have hHeld := hHeld2; clear hHeld2
                        try simp only [Act.put, List.setIfInBounds_toArray, List.set_cons_zero, List.set_cons_succ]
                        refine wpAnyH_ready (rs := [13]) (by kernel_rfl) (by simp) ?_
                        refine (AllReadyH.cons (o := { dst := none, op := Op.store 26 (Operand.tmp 6) (Operand.tmp 45), type := 0, pos := "law.go:35", after := #[{ on := 11, ground := Ground.data }, { on := 9, ground := Ground.data }, { on := 12, ground := Ground.chain }, { on := 0, ground := Ground.phase }, { on := 1, ground := Ground.phase }, { on := 2, ground := Ground.phase }, { on := 3, ground := Ground.phase }, { on := 4, ground := Ground.phase }, { on := 5, ground := Ground.phase }, { on := 6, ground := Ground.phase }, { on := 7, ground := Ground.phase }, { on := 8, ground := Ground.phase }, { on := 9, ground := Ground.phase }, { on := 10, ground := Ground.phase }, { on := 11, ground := Ground.phase }, { on := 12, ground := Ground.phase }], guard := none }) rfl (fun K hK => ?_) AllReadyH.nil)
                        (have h0 := (H12.out).cell 5 0 rfl rfl; have h1 := (H12.out).cell 5 1 rfl rfl; have h2 := (H12.out).frozenBox 5 0 rfl; have h3 := (H12.out).frozenBox 5 1 rfl; have H13 := Lib.hid (((H12.out).setBox 5 0 (.slice Sb nb cb) rfl).setBox 5 1 (.slice Db mb db) rfl); have HF := Lib.hid (H13.out.sub (l' := [.box (v3.heap.size + 1) 26 [.slice Sa na ca, .slice Da ma da], .box (v3.heap.size) 26 [.slice Sb nb cb, .slice Db mb db], .own 3 (.slice Sa na ca) na xs, .own 2 (.slice Da ma da) ma (List.replicate (Sh.size xs).toNat 0), .own 3 (.slice Sb nb cb) nb ys, .own 2 (.slice Db mb db) mb (List.replicate (Sh.size ys).toNat 0)]) [4, 5, 2, 3, 0, 1] rfl (by decide)); have c58_0 := H13.out.oldCell (p := ⟨gl, i, none⟩) hgl4 (HC.out i _ HV.out); have c58_1 := H13.out.oldCell (p := ⟨gl, k, none⟩) hgl4 (HC.out k _ HV2.out))
                        go_simp
                        try go_wp2_with fail
                        refine hK.out _ _ ?_ (fun hHeld2 => ?_)
                        · first | assumption | (exact ⟨c58_0, c58_1⟩)
                        clear hK K hHeld
                        have hHeld := hHeld2; clear hHeld2
                        try simp only [Act.put, List.setIfInBounds_toArray, List.set_cons_zero, List.set_cons_succ]
                        refine wpAnyH_done (by kernel_rfl) ?_ _
                        go_wp2_with fail
                        go_meet
                        exact ⟨_, _, Sa, Da, Sb, Db, na, ca, ma, da, nb, cb, mb, db, _, _, rfl, rfl, hma, hmb, HF.out⟩
              case rest =>
                obtain ⟨g5, g6, Sa, Da, Sb, Db, na, ca, ma, da, nb, cb, mb, db, D1, D2, rfl, rfl, hma, hmb, hS⟩ := hcut
                clear H
                have H := Lib.hid hS
                clear hS
                have a0 := H.out.cell 0 0 rfl rfl
                have a1 := H.out.cell 0 1 rfl rfl
                go_wp2_with fail
                clear a0 a1
                go_loopw [49] (fun kv wr => ∃ (j : Nat) (D1 : List Int), kv = .int .i64 j ∧ j ≤ ma ∧ Sep w4 wr [.box g5 26 [.slice Sa na ca, .slice Da ma da], .box g6 26 [.slice Sb nb cb, .slice Db mb db], .own 3 (.slice Sa na ca) na xs, .own 2 (.slice Da ma da) ma D1, .own 3 (.slice Sb nb cb) nb ys, .own 2 (.slice Db mb db) mb D2]) (fun kv _ => ma - (intOf kv).toNat)
                case atStart => exact ⟨0, _, rfl, by omega, H.out⟩
                case round =>
                  clear H
                  obtain ⟨j, D1, rfl, hj, hS⟩ := hrel
                  have H := Lib.hid hS
                  clear hS
                  by_cases hjl : j < ma
                  · obtain ⟨gb, cb9, hv, hO⟩ := (H.out.ownS 3 rfl).own (by omega)
                    injection hv with hv1 _ hv3
                    subst hv1
                    subst hv3
                    obtain ⟨z, hz⟩ := getElem_of (l := D1) (k := j) (by have := hO.len; omega)
                    have hcd := hO.cell hz
                    have hfd := hO.frozen j
                    obtain ⟨R, hR⟩ : ∃ r, j * j = r := ⟨_, rfl⟩
                    have hR2 : R ≤ 4096 * 4096 := by rw [← hR]; exact Nat.mul_le_mul (by omega) (by omega)
                    have hw1 : IntKind.i64.wrap ((j : Int) * (j : Int)) = (R : Int) := by rw [← Int.natCast_mul, hR]; exact IntWalk.i64_in _ ⟨by omega, by omega⟩
                    have hw2 : IntKind.i64.wrap ((R : Int) - 7) = (R : Int) - 7 := IntWalk.i64_in _ ⟨by omega, by omega⟩
                    clear hR
                    have HS := Lib.hid (H.out.store 3 j (x := (R : Int) - 7) ⟨by omega, by omega⟩ rfl)
                    have a1 := H.out.cell 0 1 rfl rfl
                    clear hO hz
                    go_wp2
                    go_roundw
                    case rel => exact ⟨j + 1, _, by go_num, by omega, HS.out⟩
                    case measure => simp [intOf]; omega
                  · have hjm : ma = j := by omega
                    subst hjm
                    have b0 := H.out.cell 1 0 rfl rfl
                    have b1 := H.out.cell 1 1 rfl rfl
                    go_wp2_with fail
                    clear b0 b1
                    go_loopw [64] (fun kv wr => ∃ (j : Nat) (D2 : List Int), kv = .int .i64 j ∧ j ≤ mb ∧ Sep w4 wr [.box g5 26 [.slice Sa na ca, .slice Da ma da], .box g6 26 [.slice Sb nb cb, .slice Db mb db], .own 3 (.slice Sa na ca) na xs, .own 2 (.slice Da ma da) ma D1, .own 3 (.slice Sb nb cb) nb ys, .own 2 (.slice Db mb db) mb D2]) (fun kv _ => mb - (intOf kv).toNat)
                    case atStart => exact ⟨0, _, rfl, by omega, H.out⟩
                    case round =>
                      clear H
                      obtain ⟨j, D2, rfl, hj, hS⟩ := hrel
                      have H := Lib.hid hS
                      clear hS
                      by_cases hjl : j < mb
                      · obtain ⟨gb, cb9, hv, hO⟩ := (H.out.ownS 5 rfl).own (by omega)
                        injection hv with hv1 _ hv3
                        subst hv1
                        subst hv3
                        obtain ⟨z, hz⟩ := getElem_of (l := D2) (k := j) (by have := hO.len; omega)
                        have hcd := hO.cell hz
                        have hfd := hO.frozen j
                        have hw1 : IntKind.i64.wrap ((j : Int) * 1099511627776) = (j : Int) * 1099511627776 := IntWalk.i64_in _ ⟨by omega, by omega⟩
                        have hw2 : IntKind.i64.wrap ((j : Int) * 1099511627776 - 3) = (j : Int) * 1099511627776 - 3 := IntWalk.i64_in _ ⟨by omega, by omega⟩
                        have HS := Lib.hid (H.out.store 5 j (x := (j : Int) * 1099511627776 - 3) ⟨by omega, by omega⟩ rfl)
                        have b1 := H.out.cell 1 1 rfl rfl
                        clear hO hz
                        go_wp2
                        go_roundw
                        case rel => exact ⟨j + 1, _, by go_num, by omega, HS.out⟩
                        case measure => simp [intOf]; omega
                      · have hjm : mb = j := by omega
                        subst hjm
                        have a0 := H.out.cell 0 0 rfl rfl
                        have a1 := H.out.cell 0 1 rfl rfl
                        have b0 := H.out.cell 1 0 rfl rfl
                        have b1 := H.out.cell 1 1 rfl rfl
                        have hwo : IntKind.i64.wrap (o + 1) = o + 1 := IntWalk.i64_in _ ⟨by omega, by omega⟩
                        go_wp2_with fail
                        refine (l7same_any o (ten_mk (H.out.ownInts 2 rfl).2.2 (H.out.ownInts 2 rfl).2.1 (H.out.ownInts 3 rfl).2.2 (H.out.ownInts 3 rfl).2.1) (ten_mk (H.out.ownInts 4 rfl).2.2 (H.out.ownInts 4 rfl).2.1 (H.out.ownInts 5 rfl).2.2 (H.out.ownInts 5 rfl).2.1)).mono ?_; rintro e9 w9 ⟨rfl, hb⟩
                        have HN := Lib.hid (Sep.ofBelow (H.out.below hb).base)
                        clear hb a0 a1 b0 b1
                        go_wp2
                        go_roundw
                        case rel => exact ⟨o + 1, by go_num, by omega, by omega, HN.out⟩
                        case measure => simp [intOf]; omega
            · have ho4 : o = 4 := by omega
              have hd3 : decide (o < 4) = false := by simpa using hol
              clear ho4
              go_wp2
              go_roundw
              case rel => exact ⟨k + 1, by go_num, by omega, H.out⟩
              case measure => simp [intOf]; omega
        · have hd2 : decide ((k : Int) < 13) = false := by simp; omega
          go_wp2
          go_roundw
          case rel => exact ⟨i + 1, by go_num, by omega, H.out⟩
          case measure => simp [intOf]; omega
    · have hd1 : decide ((i : Int) < 13) = false := by simp; omega
      have HQ := Lib.hid (then_ HB4.out H.out.base)
      replace H := Lib.hid (Sep.nil v1)
      replace H := Lib.hid ((H.out.lit 3 #[.int .i64 2] [2] 1 v1.heap.size rfl rfl rfl).lit 3 #[.int .i64 2] [2] 1 (v1.heap.size + 1) (by simp) rfl rfl)
      go_wp2_with fail
      refine (refFill_any 1 ((H.out.ownInts 0 rfl).2.2) (by omega) ⟨by omega, by omega⟩).mono ?_; rintro e5 w5 ⟨⟨u, rfl, hu⟩, hb⟩
      obtain ⟨Sq, nq, cq, Dq, mq, dq, rfl, _, _, hqc, hqd, _, h5⟩ := H.out.addTen hb hu
      replace H := Lib.hid h5
      clear hu hb h5
      go_wp2_with fail
      refine (l7same_any 0 (ten_mk (H.out.ownInts 3 rfl).2.2 (Nat.le_refl 1) (Ints.nil_ _ none) (Nat.le_refl 0)) (ten_mk (H.out.ownInts 0 rfl).2.2 (H.out.ownInts 0 rfl).2.1 (H.out.ownInts 1 rfl).2.2 (H.out.ownInts 1 rfl).2.1)).mono ?_; rintro e9 w9 ⟨rfl, hb⟩
      replace H := Lib.hid (H.out.below hb)
      clear hb
      go_wp2_with fail
      refine (l7known_any _).mono ?_; rintro e9 w9 ⟨rfl, hb⟩
      replace H := Lib.hid (H.out.below hb)
      clear hb
      go_wp2
      go_ret
      exact ⟨rfl, then_ HQ.out H.out.base⟩
end Go.Proofs.Ytihjobpdphljiaa
