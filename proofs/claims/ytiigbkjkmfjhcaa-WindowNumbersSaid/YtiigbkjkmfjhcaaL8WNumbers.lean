/- The walk of the law WindowNumbers. -/
import Derived.Test.YtiigbkjkmfjhcaaL8Same
import Derived.Test.YtiigbkjkmfjhcaaSepC
import Derived.Test.YtiigbkjkmfjhcaaKitReg
import Derived.Test.YtiigbkjkmfjhcaaBox
namespace Go.Proofs.Ytiigbkjkmfjhcaa
open Go.RowKit

set_option maxRecDepth 100000 in
set_option maxHeartbeats 12800000 in
theorem wnumbers_walk (w : World) :
    Calls Try.prog 3 #[] w fun e w' => e = .returned (.bool true) ∧ Below w.heap.size w w' := by
  go_enter Try.func3, Try.ntmps3
  go_wp2_with fail
  go_loopw [1] (fun kv wr => ∃ a : Int, kv = .int .i64 a ∧ -1 ≤ a ∧ a ≤ 12 ∧ w = wr) (fun kv _ => (12 - intOf kv).toNat)
  case atStart => exact ⟨-1, rfl, by omega, by omega, rfl⟩
  case round =>
    obtain ⟨a, rfl, ha1, ha2, rfl⟩ := hrel
    by_cases hal : a < 12
    · have hda : decide (a < 12) = true := by simpa using hal
      have hwa : IntKind.i64.wrap (a + 1) = a + 1 := IntWalk.i64_in _ ⟨by omega, by omega⟩
      go_wp2_with fail
      go_loopw [2] (fun kv wr => ∃ b : Int, kv = .int .i64 b ∧ -1 ≤ b ∧ b ≤ 12 ∧ w = wr) (fun kv _ => (12 - intOf kv).toNat)
      case atStart => exact ⟨-1, rfl, by omega, by omega, rfl⟩
      case round =>
        obtain ⟨b, rfl, hb1, hb2, rfl⟩ := hrel
        by_cases hbl : b < 12
        · have hdb : decide (b < 12) = true := by simpa using hbl
          have hwb : IntKind.i64.wrap (b + 1) = b + 1 := IntWalk.i64_in _ ⟨by omega, by omega⟩
          go_wp2_with fail
          go_loopw [3] (fun kv wr => ∃ c : Int, kv = .int .i64 c ∧ -1 ≤ c ∧ c ≤ 8 ∧ w = wr) (fun kv _ => (8 - intOf kv).toNat)
          case atStart => exact ⟨-1, rfl, by omega, by omega, rfl⟩
          case round =>
            obtain ⟨c, rfl, hc1, hc2, rfl⟩ := hrel
            by_cases hcl : c < 8
            · have hdc : decide (c < 8) = true := by simpa using hcl
              have hwc : IntKind.i64.wrap (c + 1) = c + 1 := IntWalk.i64_in _ ⟨by omega, by omega⟩
              obtain ⟨z, hz⟩ : ∃ z, winN a b c = z := ⟨_, rfl⟩
              have dz : (z != z) = false := by simp
              have CC := fun w => wdOut_any a b c ⟨by omega, by omega⟩ ⟨by omega, by omega⟩ ⟨by omega, by omega⟩ w
              simp only [hz] at CC
              go_wp2_with fail
              refine (CC _).mono ?_; rintro e9 w9 ⟨rfl, rfl⟩
              clear CC
              have CC := fun w => ref8Windows_any a b c ⟨by omega, by omega⟩ ⟨by omega, by omega⟩ ⟨by omega, by omega⟩ w
              simp only [hz] at CC
              go_wp2_with fail
              refine (CC _).mono ?_; rintro e9 w9 ⟨rfl, rfl⟩
              clear CC
              clear hz
              go_wp2
              go_roundw
              case rel => exact ⟨c + 1, by go_num, by omega, by omega, by trivial⟩
              case measure => simp [intOf]; omega
            · have hdc : decide (c < 8) = false := by simpa using hcl
              go_wp2
              go_roundw
              case rel => exact ⟨b + 1, by go_num, by omega, by omega, by trivial⟩
              case measure => simp [intOf]; omega
        · have hdb : decide (b < 12) = false := by simpa using hbl
          go_wp2
          go_roundw
          case rel => exact ⟨a + 1, by go_num, by omega, by omega, by trivial⟩
          case measure => simp [intOf]; omega
    · have hda : decide (a < 12) = false := by simpa using hal
      have H := Lib.hid (Sep.nil w)
      have s1 := (((((H.out).lit 3 #[.int .i64 5] [5] 1 (w.heap.size) (by simp) rfl rfl).lit 3 #[.int .i64 4, .int .i64 3] [4, 3] 2 (w.heap.size + 1) (by simp) rfl rfl).lit 3 #[.int .i64 2, .int .i64 6, .int .i64 2] [2, 6, 2] 3 (w.heap.size + 1 + 1) (by simp) rfl rfl).lit 3 #[.int .i64 0, .int .i64 3] [0, 3] 2 (w.heap.size + 1 + 1 + 1) (by simp) rfl rfl).allocBox (w.heap.size + 1 + 1 + 1 + 1) 23 [.slice none 0 0, .slice (some ⟨w.heap.size, 0, none⟩) 1 1, .slice (some ⟨w.heap.size + 1, 0, none⟩) 2 2, .slice (some ⟨w.heap.size + 1 + 1, 0, none⟩) 3 3, .slice (some ⟨w.heap.size + 1 + 1 + 1, 0, none⟩) 2 2] (by simp)
      go_wp2_with fail
      generalize (((((w).alloc (.cells #[.int .i64 5] 3)).alloc (.cells #[.int .i64 4, .int .i64 3] 3)).alloc (.cells #[.int .i64 2, .int .i64 6, .int .i64 2] 3)).alloc (.cells #[.int .i64 0, .int .i64 3] 3)).alloc (.cells #[.slice none 0 0, .slice (some ⟨w.heap.size, 0, none⟩) 1 1, .slice (some ⟨w.heap.size + 1, 0, none⟩) 2 2, .slice (some ⟨w.heap.size + 1 + 1, 0, none⟩) 3 3, .slice (some ⟨w.heap.size + 1 + 1 + 1, 0, none⟩) 2 2] 23) = w4 at *
      generalize hgl : w.heap.size + 1 + 1 + 1 + 1 = gl at *
      have LT := Lib.hid (show ∀ i : Nat, i < 5 → ∃ (A : Option Addr) (n c : Nat) (xs : List Int), ([.slice none 0 0, .slice (some ⟨w.heap.size, 0, none⟩) 1 1, .slice (some ⟨w.heap.size + 1, 0, none⟩) 2 2, .slice (some ⟨w.heap.size + 1 + 1, 0, none⟩) 3 3, .slice (some ⟨w.heap.size + 1 + 1 + 1, 0, none⟩) 2 2] : List Value)[i]? = some (.slice A n c) ∧ n ≤ c ∧ n ≤ 4 ∧ Ints w4 A n xs from fun i hi => by
        match i, hi with
        | 0, _ => exact ⟨none, 0, 0, [], rfl, Nat.le_refl _, by omega, Ints.nil_ _ none⟩
        | 1, _ => exact ⟨_, 1, 1, _, rfl, Nat.le_refl _, by omega, (s1.ownInts 4 rfl).2.2⟩
        | 2, _ => exact ⟨_, 2, 2, _, rfl, Nat.le_refl _, by omega, (s1.ownInts 3 rfl).2.2⟩
        | 3, _ => exact ⟨_, 3, 3, _, rfl, Nat.le_refl _, by omega, (s1.ownInts 2 rfl).2.2⟩
        | 4, _ => exact ⟨_, 2, 2, _, rfl, Nat.le_refl _, by omega, (s1.ownInts 1 rfl).2.2⟩
        | i + 5, hi => exact absurd hi (by omega))
      have HC := Lib.hid (fun (i : Nat) (u : Value) (hu : ([.slice none 0 0, .slice (some ⟨w.heap.size, 0, none⟩) 1 1, .slice (some ⟨w.heap.size + 1, 0, none⟩) 2 2, .slice (some ⟨w.heap.size + 1 + 1, 0, none⟩) 3 3, .slice (some ⟨w.heap.size + 1 + 1 + 1, 0, none⟩) 2 2] : List Value)[i]? = some u) => s1.cell 0 i rfl hu)
      have hgl4 := (s1.blockLt 0 rfl).2
      have HB4 := Lib.hid s1.base
      clear s1 H hgl
      go_loopw [39] (fun kv wr => ∃ i : Nat, kv = .int .i64 i ∧ i ≤ 5 ∧ Sep w4 wr []) (fun kv _ => 5 - (intOf kv).toNat)
      case atStart => exact ⟨0, rfl, by omega, Sep.nil w4⟩
      case round =>
        obtain ⟨i, rfl, hi, hS⟩ := hrel
        have H := Lib.hid hS
        clear hS
        obtain ⟨v1, rfl⟩ : ∃ v1 : World, v1 = wr := ⟨_, rfl⟩
        by_cases hil : i < 5
        · have hd1 : decide ((i : Int) < 5) = true := by simp; omega
          obtain ⟨A, n, c, xs, hv, hnc, hn3, hI⟩ := LT.out i hil
          have hcl := H.out.oldCell (p := ⟨gl, i, none⟩) hgl4 (HC.out i _ hv)
          have HI := Lib.hid hI
          clear hv hI
          go_wp2_with fail
          refine (refFill_any 0 (H.out.oldI HI.out) (by omega) ⟨by omega, by omega⟩).mono ?_; rintro e5 w5 ⟨⟨u, rfl, hu⟩, hb⟩
          obtain ⟨St, nt, ct, Dt, mt, dt, rfl, _, hd, _, _, hNle, h5⟩ := H.out.addTen hb hu
          rw [List.length_replicate] at hd
          have hm4 : mt ≤ 4096 := by have := (Sh.size_bd xs).2; omega
          have h6 := h5.allocBox w5.heap.size 27 [.slice St nt ct, .slice Dt mt dt] rfl
          clear hu hb h5 hcl hd
          go_upto_region 16 with fail
          generalize w5.alloc (.cells #[.slice St nt ct, .slice Dt mt dt] 27) = w6 at *
          generalize w5.heap.size = gt at *
          replace H := Lib.hid h6
          clear h6
          have t0 := H.out.cell 0 0 rfl rfl
          have t1 := H.out.cell 0 1 rfl rfl
          go_wp2_with fail
          clear t0 t1
          go_loopw [48] (fun kv wr => ∃ (j : Nat) (D : List Int), kv = .int .i64 j ∧ j ≤ mt ∧ Sep w4 wr [.box gt 27 [.slice St nt ct, .slice Dt mt dt], .own 3 (.slice St nt ct) nt xs, .own 2 (.slice Dt mt dt) mt D]) (fun kv _ => mt - (intOf kv).toNat)
          case atStart => exact ⟨0, _, rfl, by omega, H.out⟩
          case round =>
            clear H
            obtain ⟨j, D, rfl, hj, hS⟩ := hrel
            have H := Lib.hid hS
            clear hS
            by_cases hjl : j < mt
            · obtain ⟨gb, cb9, hv, hO⟩ := (H.out.ownS 2 rfl).own (by omega)
              injection hv with hv1 _ hv3
              subst hv1
              subst hv3
              obtain ⟨z, hz⟩ := getElem_of (l := D) (k := j) (by have := hO.len; omega)
              have hcd := hO.cell hz
              have hfd := hO.frozen j
              obtain ⟨R, hR⟩ : ∃ r, j * j = r := ⟨_, rfl⟩
              have hR2 : R ≤ 4096 * 4096 := by rw [← hR]; exact Nat.mul_le_mul (by omega) (by omega)
              have hw1 : IntKind.i64.wrap ((j : Int) * (j : Int)) = (R : Int) := by rw [← Int.natCast_mul, hR]; exact IntWalk.i64_in _ ⟨by omega, by omega⟩
              have hw2 : IntKind.i64.wrap ((R : Int) - 9) = (R : Int) - 9 := IntWalk.i64_in _ ⟨by omega, by omega⟩
              clear hR
              have HS := Lib.hid (H.out.store 2 j (x := (R : Int) - 9) ⟨by omega, by omega⟩ rfl)
              have t1 := H.out.cell 0 1 rfl rfl
              clear hO hz
              go_wp2
              go_roundw
              case rel => exact ⟨j + 1, _, by go_num, by omega, HS.out⟩
              case measure => simp [intOf]; omega
            · have hjm : mt = j := by omega
              subst hjm
              go_wp2_with fail
              have hSx := H.out
              clear hSx
              go_loopw [8] (fun kv wr => ∃ ax : Int, kv = .int .i64 ax ∧ -1 ≤ ax ∧ ax ≤ 4 ∧ Sep w4 wr [.box gt 27 [.slice St nt ct, .slice Dt mt dt], .own 3 (.slice St nt ct) nt xs, .own 2 (.slice Dt mt dt) mt D]) (fun kv _ => (4 - intOf kv).toNat)
              case atStart => exact ⟨-1, rfl, by omega, by omega, H.out⟩
              case round =>
                clear H
                obtain ⟨ax, rfl, hax1, hax2, hS⟩ := hrel
                have H := Lib.hid hS
                clear hS
                obtain ⟨vax, rfl⟩ : ∃ vv : World, vv = wr := ⟨_, rfl⟩
                by_cases haxl : ax < 4
                · have hdax : decide (ax < 4) = true := by simpa using haxl
                  have hwax : IntKind.i64.wrap (ax + 1) = ax + 1 := IntWalk.i64_in _ ⟨by omega, by omega⟩
                  have h7 := H.out.lit 3 #[.int .i64 0, .int .i64 1, .int .i64 2, .int .i64 3, .int .i64 5, .int .i64 32, .int .i64 33] [0, 1, 2, 3, 5, 32, 33] 7 vax.heap.size rfl rfl rfl
                  go_wp2_with fail
                  generalize vax.alloc (.cells #[.int .i64 0, .int .i64 1, .int .i64 2, .int .i64 3, .int .i64 5, .int .i64 32, .int .i64 33] 3) = w7 at *
                  generalize vax.heap.size = g7 at *
                  replace H := Lib.hid h7
                  clear h7
                  go_loopw [66] (fun kv wr => ∃ q : Nat, kv = .int .i64 q ∧ q ≤ 7 ∧ Sep w4 wr [.own 3 (.slice (some ⟨g7, 0, none⟩) 7 7) 7 [0, 1, 2, 3, 5, 32, 33], .box gt 27 [.slice St nt ct, .slice Dt mt dt], .own 3 (.slice St nt ct) nt xs, .own 2 (.slice Dt mt dt) mt D]) (fun kv _ => 7 - (intOf kv).toNat)
                  case atStart => exact ⟨0, rfl, by omega, H.out⟩
                  case round =>
                    clear H
                    obtain ⟨q, rfl, hq, hS⟩ := hrel
                    have H := Lib.hid hS
                    clear hS
                    obtain ⟨vq, rfl⟩ : ∃ vv : World, vv = wr := ⟨_, rfl⟩
                    by_cases hql : q < 7
                    · have hdq : decide ((q : Int) < 7) = true := by simp; omega
                      obtain ⟨x, hx⟩ := getElem_of (l := ([0, 1, 2, 3, 5, 32, 33] : List Int)) (k := q) (by simpa using hql)
                      have hcx := (H.out.own 0 rfl).cell hx
                      have hfx := (H.out.ownS 0 rfl).2.1 x (List.mem_of_getElem? hx)
                      clear hx
                      go_wp2_with fail
                      clear hcx
                      go_loopw [11] (fun kv wr => ∃ o : Int, kv = .int .i64 o ∧ 0 ≤ o ∧ o ≤ 6 ∧ Sep w4 wr [.own 3 (.slice (some ⟨g7, 0, none⟩) 7 7) 7 [0, 1, 2, 3, 5, 32, 33], .box gt 27 [.slice St nt ct, .slice Dt mt dt], .own 3 (.slice St nt ct) nt xs, .own 2 (.slice Dt mt dt) mt D]) (fun kv _ => (6 - intOf kv).toNat)
                      case atStart => exact ⟨0, rfl, by omega, by omega, H.out⟩
                      case round =>
                        clear H
                        obtain ⟨o, rfl, ho1, ho2, hS⟩ := hrel
                        have H := Lib.hid hS
                        clear hS
                        obtain ⟨vo, rfl⟩ : ∃ vv : World, vv = wr := ⟨_, rfl⟩
                        by_cases hol : o < 6
                        · have hdo : decide (o < 6) = true := by simpa using hol
                          have hwo : IntKind.i64.wrap (o + 1) = o + 1 := IntWalk.i64_in _ ⟨by omega, by omega⟩
                          have e3 := Int.emod_nonneg o (b := 3) (by omega)
                          have e4 := Int.emod_lt_of_pos o (b := 3) (by omega)
                          have hwr : IntKind.i64.wrap (1 + o % 3) = 1 + o % 3 := IntWalk.i64_in _ ⟨by omega, by omega⟩
                          have t0 := H.out.cell 1 0 rfl rfl
                          have t1 := H.out.cell 1 1 rfl rfl
                          have C0 := l8same_any o ax x (1 + o % 3) (ten_mk (H.out.ownInts 2 rfl).2.2 (H.out.ownInts 2 rfl).2.1 (H.out.ownInts 3 rfl).2.2 (H.out.ownInts 3 rfl).2.1)
                          go_wp2_with fail
                          refine C0.mono ?_; rintro e0 w0 ⟨rfl, hb⟩
                          replace H := Lib.hid (H.out.below hb)
                          clear C0 hb t0 t1
                          have t0 := H.out.cell 1 0 rfl rfl
                          have t1 := H.out.cell 1 1 rfl rfl
                          have C1 := l8same_any o ax 2 x (ten_mk (H.out.ownInts 2 rfl).2.2 (H.out.ownInts 2 rfl).2.1 (H.out.ownInts 3 rfl).2.2 (H.out.ownInts 3 rfl).2.1)
                          go_wp2_with fail
                          refine C1.mono ?_; rintro e1 w1 ⟨rfl, hb⟩
                          replace H := Lib.hid (H.out.below hb)
                          clear C1 hb t0 t1
                          go_wp2
                          go_roundw
                          case rel => exact ⟨o + 1, by go_num, by omega, by omega, H.out⟩
                          case measure => simp [intOf]; omega
                        · have hdo : decide (o < 6) = false := by simpa using hol
                          go_wp2
                          go_roundw
                          case rel => exact ⟨q + 1, by go_num, by omega, H.out⟩
                          case measure => simp [intOf]; omega
                    · have hdq : decide ((q : Int) < 7) = false := by simp; omega
                      go_wp2
                      go_roundw
                      case rel => exact ⟨ax + 1, by go_num, by omega, by omega, H.out.tail_⟩
                      case measure => simp [intOf]; omega
                · have hdax : decide (ax < 4) = false := by simpa using haxl
                  have HN := Lib.hid (Sep.ofBelow H.out.base)
                  go_wp2
                  go_roundw
                  case rel => exact ⟨i + 1, by go_num, by omega, HN.out⟩
                  case measure => simp [intOf]; omega
        · have hd1 : decide ((i : Int) < 5) = false := by simp; omega
          have HQ := Lib.hid (then_ HB4.out H.out.base)
          replace H := Lib.hid (Sep.nil v1)
          have CC := fun w => wdOut_any 4611686018427387904 1 1 ⟨by omega, by omega⟩ ⟨by omega, by omega⟩ ⟨by omega, by omega⟩ w
          simp only [show winN 4611686018427387904 1 1 = 4611686018427387904 by decide] at CC
          go_wp2_with fail
          refine (CC _).mono ?_; rintro e9 w9 ⟨rfl, rfl⟩
          clear CC
          replace H := Lib.hid (H.out.lit 3 #[.int .i64 2] [2] 1 v1.heap.size rfl rfl rfl)
          go_wp2_with fail
          refine (l8same_any 1 0 1 1 (ten_mk (H.out.ownInts 0 rfl).2.2 (Nat.le_refl 1) (Ints.nil_ _ none) (Nat.le_refl 0))).mono ?_; rintro e9 w9 ⟨rfl, hb⟩
          replace H := Lib.hid (H.out.below hb)
          clear hb
          go_wp2_with fail
          refine (l8known_any _).mono ?_; rintro e9 w9 ⟨rfl, hb⟩
          replace H := Lib.hid (H.out.below hb)
          clear hb
          go_wp2
          go_ret
          exact ⟨rfl, then_ HQ.out H.out.base⟩
end Go.Proofs.Ytiigbkjkmfjhcaa
