/- The walk of the law PointNumbers. -/
import Derived.Test.YtmekkhegokcpoaaL4Same
import Derived.Test.YtmekkhegokcpoaaL4Known
namespace Go.Proofs.Ytmekkhegokcpoaa
open Go.RowKit

def edgesL : List Int := [0, 1, -1, 2, -3, 2147483648, -4294967296, 4611686018427387905, 9223372036854775807, -9223372036854775808, 3037000500]
theorem l4edges_any (w : World) :
    Calls Try.prog 7 #[] w fun e w' => (∃ ad c, e = .returned (.slice (some ad) 11 c) ∧ 11 ≤ c ∧ Ints w' (some ad) 11 edgesL) ∧ Below w.heap.size w w' := by
  have j := ints_lit w 2 w.heap.size 11 #[.int .i64 0, .int .i64 1, .int .i64 (-1), .int .i64 2, .int .i64 (-3), .int .i64 2147483648, .int .i64 (-4294967296), .int .i64 4611686018427387905, .int .i64 9223372036854775807, .int .i64 (-9223372036854775808), .int .i64 3037000500] edgesL (by rfl) (by rfl) (by decide)
  have hb := (Below.refl w.heap.size w).alloc (Nat.le_refl _) (.cells #[.int .i64 0, .int .i64 1, .int .i64 (-1), .int .i64 2, .int .i64 (-3), .int .i64 2147483648, .int .i64 (-4294967296), .int .i64 4611686018427387905, .int .i64 9223372036854775807, .int .i64 (-9223372036854775808), .int .i64 3037000500] 2)
  have J := Lib.hid j
  have HB := Lib.hid hb
  clear j hb
  go_enter Try.func7, Try.ntmps7
  go_wp2
  go_ret
  exact ⟨⟨_, _, rfl, Nat.le_refl _, J.out⟩, HB.out⟩
set_option maxRecDepth 100000 in
set_option maxHeartbeats 12800000 in
theorem pnumbers_walk (w : World) :
    Calls Try.prog 3 #[] w fun e w' => e = .returned (.bool true) ∧ Below w.heap.size w w' := by
  go_enter Try.func3, Try.ntmps3
  go_wp2_with fail
  refine (l4edges_any w).mono ?_; rintro e0 w1 ⟨⟨ad, c, rfl, hc, hI⟩, hb⟩
  have HI := Lib.hid hI
  have HB := Lib.hid hb
  have hb0 := Below.refl w1.heap.size w1
  clear hI hb
  go_wp2_with fail
  go_loopw [2] (fun kv wr => ∃ o : Int, kv = .int .i64 o ∧ -1 ≤ o ∧ o ≤ 23 ∧ Below w1.heap.size w1 wr) (fun kv _ => (23 - intOf kv).toNat)
  case atStart => exact ⟨-1, rfl, by omega, by omega, hb0⟩
  case round =>
    clear hb0
    obtain ⟨o, rfl, ho1, ho2, hb0⟩ := hrel
    have HB0 := Lib.hid hb0
    have HI0 := Lib.hid (HI.out.below hb0)
    clear hb0
    obtain ⟨v, rfl⟩ : ∃ v : World, v = wr := ⟨_, rfl⟩
    by_cases ho : o < 23
    · have hd1 : decide (o < 23) = true := by simpa using ho
      go_wp2_with fail
      go_loopw [16] (fun kv wx => ∃ j : Nat, kv = .int .i64 j ∧ j ≤ 11 ∧ wx = v) (fun kv _ => 11 - (intOf kv).toNat)
      case atStart => exact ⟨0, rfl, by omega, rfl⟩
      case round =>
        obtain ⟨j, rfl, hj, rfl⟩ := hrel
        obtain ⟨v, rfl⟩ : ∃ v : World, v = wr := ⟨_, rfl⟩
        by_cases hjl : j < 11
        · have hd2 : decide ((j : Int) < 11) = true := by simp; omega
          obtain ⟨ad', x, he, _, _, hcx, _⟩ := HI0.out.at_ (k := j) hjl
          injection he with he; subst he
          go_wp2_with fail
          clear hcx
          go_loopw [22] (fun kv wx => ∃ i : Nat, kv = .int .i64 i ∧ i ≤ 11 ∧ wx = v) (fun kv _ => 11 - (intOf kv).toNat)
          case atStart => exact ⟨0, rfl, by omega, rfl⟩
          case round =>
            obtain ⟨i, rfl, hi, rfl⟩ := hrel
            by_cases hil : i < 11
            · obtain ⟨ad', y, he, _, _, hcy, _⟩ := HI0.out.at_ (k := i) hil
              injection he with he; subst he
              obtain ⟨r, hr⟩ : ∃ r, stepF o x y = r := ⟨_, rfl⟩
              have q : (r != r) = false := by simp
              have C0 := pStep_any o x y wr
              have C1 := ref4Step_any o x y wr
              rw [hr] at C0 C1
              clear hr
              go_wp2_with fail
              refine C0.mono ?_; rintro e2 w2 ⟨rfl, rfl⟩
              go_wp2_with fail
              refine C1.mono ?_; rintro e2 w2 ⟨rfl, rfl⟩
              clear C0 C1 hcy
              go_wp2
              go_roundw
              case rel => exact ⟨i + 1, by go_num, by omega, (by trivial)⟩
              case measure => simp [intOf]; omega
            · go_wp2
              go_roundw
              case rel => exact ⟨j + 1, by go_num, by omega, (by trivial)⟩
              case measure => simp [intOf]; omega
        · obtain rfl : j = 11 := by omega
          clear hjl
          have b0 : Bx w1 v none [] := ⟨HB0.out, (fun _ h => by cases h), (fun _ h => by cases h)⟩
          have q1 := (Below.refl v.heap.size v).alloc (Nat.le_refl _) (.cells #[.int .i64 11] 3)
          have j1 := ints_lit v 3 v.heap.size 1 #[.int .i64 11] [11] (by rfl) (by rfl) (by decide)
          have b1 := (b0.below q1).push (ten_mk j1 (Nat.le_refl 1) (HI0.out.below q1) hc).tx
          rw [size_alloc] at b1
          have q2 := q1.alloc (by simp) (.cells #[.slice (some ⟨v.heap.size, 0, none⟩) 1 1, .slice (some ad) 11 c] 27)
          have q3 := q2.alloc (by simp; omega) (.cells #[.int .i64 11, .int .i64 1] 3)
          have j3 := ints_lit ((v.alloc (.cells #[.int .i64 11] 3)).alloc (.cells #[.slice (some ⟨v.heap.size, 0, none⟩) 1 1, .slice (some ad) 11 c] 27)) 3 (v.heap.size + 1 + 1) 2 #[.int .i64 11, .int .i64 1] [11, 1] (by simp) (by rfl) (by decide)
          have q23 := (Below.refl ((v.alloc (.cells #[.int .i64 11] 3)).alloc (.cells #[.slice (some ⟨v.heap.size, 0, none⟩) 1 1, .slice (some ad) 11 c] 27)).heap.size ((v.alloc (.cells #[.int .i64 11] 3)).alloc (.cells #[.slice (some ⟨v.heap.size, 0, none⟩) 1 1, .slice (some ad) 11 c] 27))).alloc (Nat.le_refl _) (.cells #[.int .i64 11, .int .i64 1] 3)
          have b2 := (b1.below q23).push (ten_mk j3 (Nat.le_refl 2) (HI0.out.below q3) hc).tx
          rw [size_alloc, size_alloc, size_alloc] at b2
          have HBX := Lib.hid b2
          clear b0 b1 b2 q1 q2 q3 q23 j1 j3 HI0
          go_upto_region 17 with fail
          generalize (((v.alloc (.cells #[.int .i64 11] 3)).alloc (.cells #[.slice (some ⟨v.heap.size, 0, none⟩) 1 1, .slice (some ad) 11 c] 27)).alloc (.cells #[.int .i64 11, .int .i64 1] 3)).alloc (.cells #[.slice (some ⟨v.heap.size + 1 + 1, 0, none⟩) 2 2, .slice (some ad) 11 c] 27) = vz at *
          obtain ⟨St, snt, sct, Dt, dnt, dct, pt0, pt1, tt⟩ := HBX.out.get (by exact (.tail _ (.head _)))
          have C0 := l4same_any o tt tt tt
          clear tt
          go_wp2_with fail
          refine C0.mono ?_; rintro e0 w0 ⟨rfl, hb⟩
          replace HBX := Lib.hid (HBX.out.below hb)
          clear C0 hb
          clear pt0 pt1
          obtain ⟨St, snt, sct, Dt, dnt, dct, pt0, pt1, tt⟩ := HBX.out.get (by exact (.tail _ (.head _)))
          obtain ⟨Su, snu, scu, Du, dnu, dcu, pu0, pu1, tu⟩ := HBX.out.get (by exact (.head _))
          have C1 := l4same_any o tt tu tt
          clear tt tu
          go_wp2_with fail
          refine C1.mono ?_; rintro e1 w1 ⟨rfl, hb⟩
          replace HBX := Lib.hid (HBX.out.below hb)
          clear C1 hb
          clear pt0 pt1 pu0 pu1
          obtain ⟨St, snt, sct, Dt, dnt, dct, pt0, pt1, tt⟩ := HBX.out.get (by exact (.tail _ (.head _)))
          obtain ⟨Su, snu, scu, Du, dnu, dcu, pu0, pu1, tu⟩ := HBX.out.get (by exact (.head _))
          have C2 := l4same_any o tt tt tu
          clear tt tu
          go_wp2_with fail
          refine C2.mono ?_; rintro e2 w2 ⟨rfl, hb⟩
          replace HBX := Lib.hid (HBX.out.below hb)
          clear C2 hb
          clear pt0 pt1 pu0 pu1
          have l1 := (Below.refl w2.heap.size w2).alloc (Nat.le_refl _) (.cells #[.int .i64 2] 3)
          have l2 := ints_lit w2 3 w2.heap.size 1 #[.int .i64 2] [2] (by rfl) (by rfl) (by decide)
          have HTO := Lib.hid (ten_mk l2 (Nat.le_refl 1) (Ints.nil_ (w2.alloc (.cells #[.int .i64 2] 3)) none) (Nat.le_refl 0))
          replace HBX := Lib.hid (HBX.out.below l1)
          clear l1 l2
          obtain ⟨St, snt, sct, Dt, dnt, dct, pt0, pt1, tt⟩ := HBX.out.get (by exact (.tail _ (.head _)))
          have C3 := l4same_any o HTO.out tt tt
          clear tt
          go_wp2_with fail
          refine C3.mono ?_; rintro e3 w3 ⟨rfl, hb⟩
          replace HBX := Lib.hid (HBX.out.below hb)
          clear C3 hb
          clear pt0 pt1
          obtain ⟨St, snt, sct, Dt, dnt, dct, pt0, pt1, tt⟩ := HBX.out.get (by exact (.tail _ (.head _)))
          have l1 := (Below.refl w3.heap.size w3).alloc (Nat.le_refl _) (.cells #[.int .i64 11] 3)
          have l2 := ints_lit w3 3 w3.heap.size 1 #[.int .i64 11] [11] (by rfl) (by rfl) (by decide)
          have HTO2 := Lib.hid (ten_mk l2 (Nat.le_refl 1) (Ints.nil_ (w3.alloc (.cells #[.int .i64 11] 3)) none) (Nat.le_refl 0))
          have pu0 := box_keep l1 pt0
          have pu1 := box_keep l1 pt1
          have C9 := l4same_any o (tt.below l1) HTO2.out (tt.below l1)
          replace HBX := Lib.hid (HBX.out.below l1)
          clear l1 l2 tt
          go_wp2_with fail
          refine C9.mono ?_; rintro e9 w9 ⟨rfl, hb⟩
          replace HBX := Lib.hid (HBX.out.below hb)
          clear C9 hb pt0 pt1 pu0 pu1
          have HBZ := Lib.hid HBX.out.base
          go_wp2
          go_roundw
          case rel => exact ⟨o + 1, by go_num, by omega, by omega, HBZ.out⟩
          case measure => simp [intOf]; omega
    · have HBF := Lib.hid (then_ HB.out HB0.out)
      go_wp2_with fail
      refine (l4known_any _).mono ?_; rintro e5 w5 ⟨rfl, hb⟩
      have HBG := Lib.hid (then_ HBF.out hb)
      clear hb
      go_wp2
      go_ret
      exact ⟨rfl, HBG.out⟩
end Go.Proofs.Ytmekkhegokcpoaa
