/- The walk of the law FoldNumbers. -/
import Derived.Test.YtgdgpggicgfddaaL6Same
import Derived.Test.YtgdgpggicgfddaaSepC
import Derived.Test.YtgdgpggicgfddaaKitReg
import Derived.Test.YtgdgpggicgfddaaBox
namespace Go.Proofs.Ytgdgpggicgfddaa
open Go.RowKit

def odd6 : List Int := [5, -7, 4611686018427387904, 9223372036854775807, -9223372036854775808, 0]
def fst6 : List Int := [0, 1, -1, 4611686018427387904, -4611686018427387904, 9223372036854775807]
theorem at6 {l : List Int} (hl : l.length = 6) (j : Nat) : ∃ x, l[j % 6]? = some x := getElem_of (by have := Nat.mod_lt j (by omega : 6 > 0); omega)
set_option maxRecDepth 100000 in
set_option maxHeartbeats 12800000 in
theorem fnumbers_walk (w : World) :
    Calls Try.prog 3 #[] w fun e w' => e = .returned (.bool true) ∧ Below w.heap.size w w' := by
  go_enter Try.func3, Try.ntmps3
  go_wp2_with fail
  go_loopw [1] (fun kv wr => ∃ o : Int, kv = .int .i64 o ∧ -1 ≤ o ∧ o ≤ 7 ∧ Sep w wr []) (fun kv _ => (7 - intOf kv).toNat)
  case atStart => exact ⟨-1, rfl, by omega, by omega, Sep.nil w⟩
  case round =>
    obtain ⟨o, rfl, ho1, ho2, hS⟩ := hrel
    have H := Lib.hid hS
    have HB0 := Lib.hid hS.base
    clear hS
    obtain ⟨v, rfl⟩ : ∃ v : World, v = wr := ⟨_, rfl⟩
    by_cases ho : o < 7
    · have hd1 : decide (o < 7) = true := by simpa using ho
      have s1 := (((((H.out).lit 3 #[.int .i64 4] [4] 1 (v.heap.size) (by simp) rfl rfl).lit 3 #[.int .i64 2, .int .i64 3] [2, 3] 2 (v.heap.size + 1) (by simp) rfl rfl).lit 3 #[.int .i64 0, .int .i64 2] [0, 2] 2 (v.heap.size + 1 + 1) (by simp) rfl rfl).lit 3 #[.int .i64 2, .int .i64 2, .int .i64 2] [2, 2, 2] 3 (v.heap.size + 1 + 1 + 1) (by simp) rfl rfl).allocBox (v.heap.size + 1 + 1 + 1 + 1) 22 [.slice none 0 0, .slice (some ⟨v.heap.size, 0, none⟩) 1 1, .slice (some ⟨v.heap.size + 1, 0, none⟩) 2 2, .slice (some ⟨v.heap.size + 1 + 1, 0, none⟩) 2 2, .slice (some ⟨v.heap.size + 1 + 1 + 1, 0, none⟩) 3 3] (by simp)
      go_wp2_with fail
      generalize (((((v).alloc (.cells #[.int .i64 4] 3)).alloc (.cells #[.int .i64 2, .int .i64 3] 3)).alloc (.cells #[.int .i64 0, .int .i64 2] 3)).alloc (.cells #[.int .i64 2, .int .i64 2, .int .i64 2] 3)).alloc (.cells #[.slice none 0 0, .slice (some ⟨v.heap.size, 0, none⟩) 1 1, .slice (some ⟨v.heap.size + 1, 0, none⟩) 2 2, .slice (some ⟨v.heap.size + 1 + 1, 0, none⟩) 2 2, .slice (some ⟨v.heap.size + 1 + 1 + 1, 0, none⟩) 3 3] 22) = w4 at *
      generalize hgl : v.heap.size + 1 + 1 + 1 + 1 = gl at *
      have LT := Lib.hid (show ∀ i : Nat, i < 5 → ∃ (A : Option Addr) (n c : Nat) (xs : List Int), ([.slice none 0 0, .slice (some ⟨v.heap.size, 0, none⟩) 1 1, .slice (some ⟨v.heap.size + 1, 0, none⟩) 2 2, .slice (some ⟨v.heap.size + 1 + 1, 0, none⟩) 2 2, .slice (some ⟨v.heap.size + 1 + 1 + 1, 0, none⟩) 3 3] : List Value)[i]? = some (.slice A n c) ∧ n ≤ c ∧ n ≤ 3 ∧ Ints w4 A n xs from fun i hi => by
        match i, hi with
        | 0, _ => exact ⟨none, 0, 0, [], rfl, Nat.le_refl _, by omega, Ints.nil_ _ none⟩
        | 1, _ => exact ⟨_, 1, 1, _, rfl, Nat.le_refl _, by omega, (s1.ownInts 4 rfl).2.2⟩
        | 2, _ => exact ⟨_, 2, 2, _, rfl, Nat.le_refl _, by omega, (s1.ownInts 3 rfl).2.2⟩
        | 3, _ => exact ⟨_, 2, 2, _, rfl, Nat.le_refl _, by omega, (s1.ownInts 2 rfl).2.2⟩
        | 4, _ => exact ⟨_, 3, 3, _, rfl, Nat.le_refl _, by omega, (s1.ownInts 1 rfl).2.2⟩
        | i + 5, hi => exact absurd hi (by omega))
      have HC := Lib.hid (fun (i : Nat) (u : Value) (hu : ([.slice none 0 0, .slice (some ⟨v.heap.size, 0, none⟩) 1 1, .slice (some ⟨v.heap.size + 1, 0, none⟩) 2 2, .slice (some ⟨v.heap.size + 1 + 1, 0, none⟩) 2 2, .slice (some ⟨v.heap.size + 1 + 1 + 1, 0, none⟩) 3 3] : List Value)[i]? = some u) => s1.cell 0 i rfl hu)
      have hgl4 := (s1.blockLt 0 rfl).2
      have HB4 := Lib.hid s1.base
      clear s1 H hgl
      go_loopw [22] (fun kv wr => ∃ i : Nat, kv = .int .i64 i ∧ i ≤ 5 ∧ Sep w4 wr []) (fun kv _ => 5 - (intOf kv).toNat)
      case atStart => exact ⟨0, rfl, by omega, Sep.nil w4⟩
      case round =>
        obtain ⟨i, rfl, hi, hS⟩ := hrel
        have H := Lib.hid hS
        clear hS
        obtain ⟨v2, rfl⟩ : ∃ v2 : World, v2 = wr := ⟨_, rfl⟩
        by_cases hil : i < 5
        · have hd2 : decide ((i : Int) < 5) = true := by simp; omega
          obtain ⟨A, n, c, xs, hv, hnc, hn3, hI⟩ := LT.out i hil
          have hcl := H.out.oldCell (p := ⟨gl, i, none⟩) hgl4 (HC.out i _ hv)
          have HI := Lib.hid hI
          clear hv hI
          go_wp2_with fail
          refine (refFill_any 0 (H.out.oldI HI.out) (by omega) ⟨by omega, by omega⟩).mono ?_; rintro e5 w5 ⟨⟨u, rfl, hu⟩, hb⟩
          obtain ⟨St, nt, ct, Dt, mt, dt, rfl, _, hd, _, _, hNle, h5⟩ := H.out.addTen hb hu
          rw [List.length_replicate] at hd
          have hm4 : mt ≤ 4096 := by have := (Sh.size_bd xs).2; omega
          have h6 := h5.allocBox w5.heap.size 26 [.slice St nt ct, .slice Dt mt dt] rfl
          clear hu hb h5 hcl hd
          go_upto_region 8 with fail
          generalize w5.alloc (.cells #[.slice St nt ct, .slice Dt mt dt] 26) = w6 at *
          generalize w5.heap.size = gt at *
          replace H := Lib.hid h6
          clear h6
          have t0 := H.out.cell 0 0 rfl rfl
          have t1 := H.out.cell 0 1 rfl rfl
          go_wp2_with fail
          clear t0 t1
          go_loopw [31] (fun kv wr => ∃ (j : Nat) (D : List Int), kv = .int .i64 j ∧ j ≤ mt ∧ Sep w4 wr [.box gt 26 [.slice St nt ct, .slice Dt mt dt], .own 3 (.slice St nt ct) nt xs, .own 2 (.slice Dt mt dt) mt D]) (fun kv _ => mt - (intOf kv).toNat)
          case atStart => exact ⟨0, _, rfl, by omega, H.out⟩
          case round =>
            clear H
            obtain ⟨j, D, rfl, hj, hS⟩ := hrel
            have H := Lib.hid hS
            clear hS
            by_cases hjl : j < mt
            · have s2 := (H.out.lit 2 #[.int .i64 5, .int .i64 (-7), .int .i64 4611686018427387904, .int .i64 9223372036854775807, .int .i64 (-9223372036854775808), .int .i64 0] odd6 6 wr.heap.size rfl rfl (by decide)).drew
              obtain ⟨x, hx⟩ := at6 (l := odd6) rfl j
              have hcl := (s2.own 0 rfl).cell hx
              have hfx : Fits x := (s2.ownS 0 rfl).2.1 x (List.mem_of_getElem? hx)
              obtain ⟨gb, cb, hv, hO⟩ := (s2.ownS 3 rfl).own (by omega)
              injection hv with hv1 _ hv3
              subst hv1
              subst hv3
              obtain ⟨z, hz⟩ := getElem_of (l := D) (k := j) (by have := hO.len; omega)
              have hcd := hO.cell hz
              have hfd := hO.frozen j
              have t0 := s2.cell 1 1 rfl rfl
              have t00 := H.out.cell 0 1 rfl rfl
              rcases (by omega : j % 6 = 0 ∨ j % 6 = 1 ∨ j % 6 = 2 ∨ j % 6 = 3 ∨ j % 6 = 4 ∨ j % 6 = 5) with hq | hq | hq | hq | hq | hq
              · have hqi : (j : Int) % 6 = 0 := by omega
                rw [hq] at hx hcl
                obtain rfl : 5 = x := by injection hx
                have s3 := s2.store 3 j hfx rfl
                have HS := Lib.hid s3.tail_
                clear s2 s3 hO hz hx hfx
                go_upto_region 11 with fail
                go_region
                all_goals (
                  clear t0 t00 hcl hcd hfd
                  go_wp2
                  go_roundw
                  case rel => exact ⟨j + 1, _, by go_num, by omega, HS.out⟩
                  case measure => simp [intOf]; omega)
              · have hqi : (j : Int) % 6 = 1 := by omega
                rw [hq] at hx hcl
                obtain rfl : (-7) = x := by injection hx
                have s3 := s2.store 3 j hfx rfl
                have HS := Lib.hid s3.tail_
                clear s2 s3 hO hz hx hfx
                go_upto_region 11 with fail
                go_region
                all_goals (
                  clear t0 t00 hcl hcd hfd
                  go_wp2
                  go_roundw
                  case rel => exact ⟨j + 1, _, by go_num, by omega, HS.out⟩
                  case measure => simp [intOf]; omega)
              · have hqi : (j : Int) % 6 = 2 := by omega
                rw [hq] at hx hcl
                obtain rfl : 4611686018427387904 = x := by injection hx
                have s3 := s2.store 3 j hfx rfl
                have HS := Lib.hid s3.tail_
                clear s2 s3 hO hz hx hfx
                go_upto_region 11 with fail
                go_region
                all_goals (
                  clear t0 t00 hcl hcd hfd
                  go_wp2
                  go_roundw
                  case rel => exact ⟨j + 1, _, by go_num, by omega, HS.out⟩
                  case measure => simp [intOf]; omega)
              · have hqi : (j : Int) % 6 = 3 := by omega
                rw [hq] at hx hcl
                obtain rfl : 9223372036854775807 = x := by injection hx
                have s3 := s2.store 3 j hfx rfl
                have HS := Lib.hid s3.tail_
                clear s2 s3 hO hz hx hfx
                go_upto_region 11 with fail
                go_region
                all_goals (
                  clear t0 t00 hcl hcd hfd
                  go_wp2
                  go_roundw
                  case rel => exact ⟨j + 1, _, by go_num, by omega, HS.out⟩
                  case measure => simp [intOf]; omega)
              · have hqi : (j : Int) % 6 = 4 := by omega
                rw [hq] at hx hcl
                obtain rfl : (-9223372036854775808) = x := by injection hx
                have s3 := s2.store 3 j hfx rfl
                have HS := Lib.hid s3.tail_
                clear s2 s3 hO hz hx hfx
                go_upto_region 11 with fail
                go_region
                all_goals (
                  clear t0 t00 hcl hcd hfd
                  go_wp2
                  go_roundw
                  case rel => exact ⟨j + 1, _, by go_num, by omega, HS.out⟩
                  case measure => simp [intOf]; omega)
              · have hqi : (j : Int) % 6 = 5 := by omega
                rw [hq] at hx hcl
                obtain rfl : 0 = x := by injection hx
                have s3 := s2.store 3 j hfx rfl
                have HS := Lib.hid s3.tail_
                clear s2 s3 hO hz hx hfx
                go_upto_region 11 with fail
                go_region
                all_goals (
                  clear t0 t00 hcl hcd hfd
                  go_wp2
                  go_roundw
                  case rel => exact ⟨j + 1, _, by go_num, by omega, HS.out⟩
                  case measure => simp [intOf]; omega)
            · have hjm : mt = j := by omega
              subst hjm
              obtain ⟨v3, rfl⟩ : ∃ v3 : World, v3 = wr := ⟨_, rfl⟩
              have s1 := ((((((((((((H.out).lit 3 #[.int .i64 0] [0] 1 (v3.heap.size) (by simp) rfl rfl).lit 3 #[.int .i64 1] [1] 1 (v3.heap.size + 1) (by simp) rfl rfl).lit 3 #[.int .i64 0, .int .i64 1] [0, 1] 2 (v3.heap.size + 1 + 1) (by simp) rfl rfl).lit 3 #[.int .i64 2] [2] 1 (v3.heap.size + 1 + 1 + 1) (by simp) rfl rfl).lit 3 #[.int .i64 0, .int .i64 2] [0, 2] 2 (v3.heap.size + 1 + 1 + 1 + 1) (by simp) rfl rfl).lit 3 #[.int .i64 1, .int .i64 2] [1, 2] 2 (v3.heap.size + 1 + 1 + 1 + 1 + 1) (by simp) rfl rfl).lit 3 #[.int .i64 0, .int .i64 1, .int .i64 2] [0, 1, 2] 3 (v3.heap.size + 1 + 1 + 1 + 1 + 1 + 1) (by simp) rfl rfl).lit 3 #[.int .i64 1, .int .i64 0] [1, 0] 2 (v3.heap.size + 1 + 1 + 1 + 1 + 1 + 1 + 1) (by simp) rfl rfl).lit 3 #[.int .i64 0, .int .i64 0] [0, 0] 2 (v3.heap.size + 1 + 1 + 1 + 1 + 1 + 1 + 1 + 1) (by simp) rfl rfl).lit 3 #[.int .i64 (-1)] [-1] 1 (v3.heap.size + 1 + 1 + 1 + 1 + 1 + 1 + 1 + 1 + 1) (by simp) rfl rfl).lit 3 #[.int .i64 3] [3] 1 (v3.heap.size + 1 + 1 + 1 + 1 + 1 + 1 + 1 + 1 + 1 + 1) (by simp) rfl rfl).allocBox (v3.heap.size + 1 + 1 + 1 + 1 + 1 + 1 + 1 + 1 + 1 + 1 + 1) 22 [.slice none 0 0, .slice (some ⟨v3.heap.size, 0, none⟩) 1 1, .slice (some ⟨v3.heap.size + 1, 0, none⟩) 1 1, .slice (some ⟨v3.heap.size + 1 + 1, 0, none⟩) 2 2, .slice (some ⟨v3.heap.size + 1 + 1 + 1, 0, none⟩) 1 1, .slice (some ⟨v3.heap.size + 1 + 1 + 1 + 1, 0, none⟩) 2 2, .slice (some ⟨v3.heap.size + 1 + 1 + 1 + 1 + 1, 0, none⟩) 2 2, .slice (some ⟨v3.heap.size + 1 + 1 + 1 + 1 + 1 + 1, 0, none⟩) 3 3, .slice (some ⟨v3.heap.size + 1 + 1 + 1 + 1 + 1 + 1 + 1, 0, none⟩) 2 2, .slice (some ⟨v3.heap.size + 1 + 1 + 1 + 1 + 1 + 1 + 1 + 1, 0, none⟩) 2 2, .slice (some ⟨v3.heap.size + 1 + 1 + 1 + 1 + 1 + 1 + 1 + 1 + 1, 0, none⟩) 1 1, .slice (some ⟨v3.heap.size + 1 + 1 + 1 + 1 + 1 + 1 + 1 + 1 + 1 + 1, 0, none⟩) 1 1] (by simp)
              go_wp2_with fail
              generalize ((((((((((((v3).alloc (.cells #[.int .i64 0] 3)).alloc (.cells #[.int .i64 1] 3)).alloc (.cells #[.int .i64 0, .int .i64 1] 3)).alloc (.cells #[.int .i64 2] 3)).alloc (.cells #[.int .i64 0, .int .i64 2] 3)).alloc (.cells #[.int .i64 1, .int .i64 2] 3)).alloc (.cells #[.int .i64 0, .int .i64 1, .int .i64 2] 3)).alloc (.cells #[.int .i64 1, .int .i64 0] 3)).alloc (.cells #[.int .i64 0, .int .i64 0] 3)).alloc (.cells #[.int .i64 (-1)] 3)).alloc (.cells #[.int .i64 3] 3)).alloc (.cells #[.slice none 0 0, .slice (some ⟨v3.heap.size, 0, none⟩) 1 1, .slice (some ⟨v3.heap.size + 1, 0, none⟩) 1 1, .slice (some ⟨v3.heap.size + 1 + 1, 0, none⟩) 2 2, .slice (some ⟨v3.heap.size + 1 + 1 + 1, 0, none⟩) 1 1, .slice (some ⟨v3.heap.size + 1 + 1 + 1 + 1, 0, none⟩) 2 2, .slice (some ⟨v3.heap.size + 1 + 1 + 1 + 1 + 1, 0, none⟩) 2 2, .slice (some ⟨v3.heap.size + 1 + 1 + 1 + 1 + 1 + 1, 0, none⟩) 3 3, .slice (some ⟨v3.heap.size + 1 + 1 + 1 + 1 + 1 + 1 + 1, 0, none⟩) 2 2, .slice (some ⟨v3.heap.size + 1 + 1 + 1 + 1 + 1 + 1 + 1 + 1, 0, none⟩) 2 2, .slice (some ⟨v3.heap.size + 1 + 1 + 1 + 1 + 1 + 1 + 1 + 1 + 1, 0, none⟩) 1 1, .slice (some ⟨v3.heap.size + 1 + 1 + 1 + 1 + 1 + 1 + 1 + 1 + 1 + 1, 0, none⟩) 1 1] 22) = w13 at *
              generalize hgm : v3.heap.size + 1 + 1 + 1 + 1 + 1 + 1 + 1 + 1 + 1 + 1 + 1 = gm at *
              have LU := Lib.hid (show ∀ i : Nat, i < 12 → ∃ (A : Option Addr) (n c : Nat) (xs : List Int), ([.slice none 0 0, .slice (some ⟨v3.heap.size, 0, none⟩) 1 1, .slice (some ⟨v3.heap.size + 1, 0, none⟩) 1 1, .slice (some ⟨v3.heap.size + 1 + 1, 0, none⟩) 2 2, .slice (some ⟨v3.heap.size + 1 + 1 + 1, 0, none⟩) 1 1, .slice (some ⟨v3.heap.size + 1 + 1 + 1 + 1, 0, none⟩) 2 2, .slice (some ⟨v3.heap.size + 1 + 1 + 1 + 1 + 1, 0, none⟩) 2 2, .slice (some ⟨v3.heap.size + 1 + 1 + 1 + 1 + 1 + 1, 0, none⟩) 3 3, .slice (some ⟨v3.heap.size + 1 + 1 + 1 + 1 + 1 + 1 + 1, 0, none⟩) 2 2, .slice (some ⟨v3.heap.size + 1 + 1 + 1 + 1 + 1 + 1 + 1 + 1, 0, none⟩) 2 2, .slice (some ⟨v3.heap.size + 1 + 1 + 1 + 1 + 1 + 1 + 1 + 1 + 1, 0, none⟩) 1 1, .slice (some ⟨v3.heap.size + 1 + 1 + 1 + 1 + 1 + 1 + 1 + 1 + 1 + 1, 0, none⟩) 1 1] : List Value)[i]? = some (.slice A n c) ∧ n ≤ c ∧ n ≤ 3 ∧ Ints w13 A n xs from fun i hi => by
                match i, hi with
                | 0, _ => exact ⟨none, 0, 0, [], rfl, Nat.le_refl _, by omega, Ints.nil_ _ none⟩
                | 1, _ => exact ⟨_, 1, 1, _, rfl, Nat.le_refl _, by omega, (s1.ownInts 11 rfl).2.2⟩
                | 2, _ => exact ⟨_, 1, 1, _, rfl, Nat.le_refl _, by omega, (s1.ownInts 10 rfl).2.2⟩
                | 3, _ => exact ⟨_, 2, 2, _, rfl, Nat.le_refl _, by omega, (s1.ownInts 9 rfl).2.2⟩
                | 4, _ => exact ⟨_, 1, 1, _, rfl, Nat.le_refl _, by omega, (s1.ownInts 8 rfl).2.2⟩
                | 5, _ => exact ⟨_, 2, 2, _, rfl, Nat.le_refl _, by omega, (s1.ownInts 7 rfl).2.2⟩
                | 6, _ => exact ⟨_, 2, 2, _, rfl, Nat.le_refl _, by omega, (s1.ownInts 6 rfl).2.2⟩
                | 7, _ => exact ⟨_, 3, 3, _, rfl, Nat.le_refl _, by omega, (s1.ownInts 5 rfl).2.2⟩
                | 8, _ => exact ⟨_, 2, 2, _, rfl, Nat.le_refl _, by omega, (s1.ownInts 4 rfl).2.2⟩
                | 9, _ => exact ⟨_, 2, 2, _, rfl, Nat.le_refl _, by omega, (s1.ownInts 3 rfl).2.2⟩
                | 10, _ => exact ⟨_, 1, 1, _, rfl, Nat.le_refl _, by omega, (s1.ownInts 2 rfl).2.2⟩
                | 11, _ => exact ⟨_, 1, 1, _, rfl, Nat.le_refl _, by omega, (s1.ownInts 1 rfl).2.2⟩
                | i + 12, hi => exact absurd hi (by omega))
              have HD := Lib.hid (fun (i : Nat) (u : Value) (hu : ([.slice none 0 0, .slice (some ⟨v3.heap.size, 0, none⟩) 1 1, .slice (some ⟨v3.heap.size + 1, 0, none⟩) 1 1, .slice (some ⟨v3.heap.size + 1 + 1, 0, none⟩) 2 2, .slice (some ⟨v3.heap.size + 1 + 1 + 1, 0, none⟩) 1 1, .slice (some ⟨v3.heap.size + 1 + 1 + 1 + 1, 0, none⟩) 2 2, .slice (some ⟨v3.heap.size + 1 + 1 + 1 + 1 + 1, 0, none⟩) 2 2, .slice (some ⟨v3.heap.size + 1 + 1 + 1 + 1 + 1 + 1, 0, none⟩) 3 3, .slice (some ⟨v3.heap.size + 1 + 1 + 1 + 1 + 1 + 1 + 1, 0, none⟩) 2 2, .slice (some ⟨v3.heap.size + 1 + 1 + 1 + 1 + 1 + 1 + 1 + 1, 0, none⟩) 2 2, .slice (some ⟨v3.heap.size + 1 + 1 + 1 + 1 + 1 + 1 + 1 + 1 + 1, 0, none⟩) 1 1, .slice (some ⟨v3.heap.size + 1 + 1 + 1 + 1 + 1 + 1 + 1 + 1 + 1 + 1, 0, none⟩) 1 1] : List Value)[i]? = some u) => s1.cell 0 i rfl hu)
              have hgm4 := (s1.blockLt 0 rfl).2
              have HT13 := Lib.hid (ten_mk (s1.ownInts 13 rfl).2.2 (s1.ownInts 13 rfl).2.1 (s1.ownInts 14 rfl).2.2 (s1.ownInts 14 rfl).2.1)
              have HTC0 := Lib.hid (s1.cell 12 0 rfl rfl)
              have HTC1 := Lib.hid (s1.cell 12 1 rfl rfl)
              have hgt4 := (s1.blockLt 12 rfl).2
              have HB13 := Lib.hid s1.base
              clear s1 H hgm
              go_loopw [57] (fun kv wr => ∃ q : Nat, kv = .int .i64 q ∧ q ≤ 12 ∧ Sep w13 wr []) (fun kv _ => 12 - (intOf kv).toNat)
              case atStart => exact ⟨0, rfl, by omega, Sep.nil w13⟩
              case round =>
                obtain ⟨q, rfl, hq, hS⟩ := hrel
                have H := Lib.hid hS
                clear hS
                by_cases hql : q < 12
                · have hd3 : decide ((q : Int) < 12) = true := by simp; omega
                  obtain ⟨A9, n9, c9, xs9, hv, hnc9, _, hI9⟩ := LU.out q hql
                  have hcl := H.out.oldCell (p := ⟨gm, q, none⟩) hgm4 (HD.out q _ hv)
                  have HI9 := Lib.hid hI9
                  clear hv hI9
                  have t0 := H.out.oldCell (p := ⟨gt, 0, none⟩) hgt4 HTC0.out
                  have t1 := H.out.oldCell (p := ⟨gt, 1, none⟩) hgt4 HTC1.out
                  go_wp2_with fail
                  refine (l6same_any (ca := c9) o (H.out.oldTen HT13.out) (H.out.oldI HI9.out)).mono ?_; rintro e9 w9 ⟨rfl, hb⟩
                  replace H := Lib.hid (H.out.below hb)
                  clear hb t0 t1 hcl
                  go_wp2
                  go_roundw
                  case rel => exact ⟨q + 1, by go_num, by omega, H.out⟩
                  case measure => simp [intOf]; omega
                · have hq12 : q = 12 := by omega
                  subst hq12
                  have HN := Lib.hid (Sep.ofBelow (then_ HB13.out H.out.base))
                  go_wp2
                  go_roundw
                  case rel => exact ⟨i + 1, by go_num, by omega, HN.out⟩
                  case measure => simp [intOf]; omega
        · have hi5 : i = 5 := by omega
          subst hi5
          have s1 := H.out.lit 2 #[.int .i64 0, .int .i64 1, .int .i64 (-1), .int .i64 4611686018427387904, .int .i64 (-9223372036854775808), .int .i64 9223372036854775807] [0, 1, -1, 4611686018427387904, -9223372036854775808, 9223372036854775807] 6 v2.heap.size rfl rfl (by decide)
          go_wp2_with fail
          generalize v2.alloc (.cells #[.int .i64 0, .int .i64 1, .int .i64 (-1), .int .i64 4611686018427387904, .int .i64 (-9223372036854775808), .int .i64 9223372036854775807] 2) = w20 at *
          generalize hg20 : v2.heap.size = g20 at *
          have HL5 := Lib.hid (fun (j : Nat) (u : Int) (hu : ([0, 1, -1, 4611686018427387904, -9223372036854775808, 9223372036854775807] : List Int)[j]? = some u) => (s1.own 0 rfl).cell hu)
          have hg20l := (s1.own 0 rfl).base_.2
          have HB20 := Lib.hid s1.base
          clear s1 H hg20
          go_loopw [70] (fun kv wr => ∃ j : Nat, kv = .int .i64 j ∧ j ≤ 6 ∧ Sep w20 wr []) (fun kv _ => 6 - (intOf kv).toNat)
          case atStart => exact ⟨0, rfl, by omega, Sep.nil w20⟩
          case round =>
            obtain ⟨j, rfl, hj, hS⟩ := hrel
            have H := Lib.hid hS
            clear hS
            obtain ⟨v5, rfl⟩ : ∃ v5 : World, v5 = wr := ⟨_, rfl⟩
            by_cases hjl : j < 6
            · have hd4 : decide ((j : Int) < 6) = true := by simp; omega
              obtain ⟨x, hx⟩ := getElem_of (l := ([0, 1, -1, 4611686018427387904, -9223372036854775808, 9223372036854775807] : List Int)) (k := j) (by simpa using hjl)
              have hcx := H.out.oldCell (p := ⟨g20, j, none⟩) hg20l (HL5.out j x hx)
              clear hx
              have s1 := H.out.lit 2 #[.int .i64 0, .int .i64 3, .int .i64 (-9), .int .i64 4611686018427387904, .int .i64 (-9223372036854775808), .int .i64 9223372036854775807] [0, 3, -9, 4611686018427387904, -9223372036854775808, 9223372036854775807] 6 v5.heap.size rfl rfl (by decide)
              go_wp2_with fail
              clear hcx
              generalize v5.alloc (.cells #[.int .i64 0, .int .i64 3, .int .i64 (-9), .int .i64 4611686018427387904, .int .i64 (-9223372036854775808), .int .i64 9223372036854775807] 2) = w23 at *
              generalize hg23 : v5.heap.size = g23 at *
              have HL6 := Lib.hid (fun (j : Nat) (u : Int) (hu : ([0, 3, -9, 4611686018427387904, -9223372036854775808, 9223372036854775807] : List Int)[j]? = some u) => (s1.own 0 rfl).cell hu)
              have hg23l := (s1.own 0 rfl).base_.2
              have HB23 := Lib.hid s1.base
              clear s1 H hg23
              go_loopw [76] (fun kv wr => ∃ q : Nat, kv = .int .i64 q ∧ q ≤ 6 ∧ Sep w23 wr []) (fun kv _ => 6 - (intOf kv).toNat)
              case atStart => exact ⟨0, rfl, by omega, Sep.nil w23⟩
              case round =>
                obtain ⟨q, rfl, hq, hS⟩ := hrel
                have H := Lib.hid hS
                clear hS
                by_cases hql : q < 6
                · have hd5 : decide ((q : Int) < 6) = true := by simp; omega
                  obtain ⟨y, hy⟩ := getElem_of (l := ([0, 3, -9, 4611686018427387904, -9223372036854775808, 9223372036854775807] : List Int)) (k := q) (by simpa using hql)
                  have hcy := H.out.oldCell (p := ⟨g23, q, none⟩) hg23l (HL6.out q y hy)
                  clear hy
                  obtain ⟨r, hr⟩ : ∃ r, putF o x y = r := ⟨_, rfl⟩
                  have dr : (r != r) = false := by simp
                  have CC := fun w => fdStep_any o x y w
                  simp only [hr] at CC
                  go_wp2_with fail
                  refine (CC _).mono ?_; rintro e9 w9 ⟨rfl, rfl⟩
                  clear CC
                  have CC := fun w => ref6Put_any o x y w
                  simp only [hr] at CC
                  go_wp2_with fail
                  refine (CC _).mono ?_; rintro e9 w9 ⟨rfl, rfl⟩
                  clear CC
                  clear hcy hr
                  go_wp2
                  go_roundw
                  case rel => exact ⟨_, _, _, _, _, _, _, _, _, _, _, _, _, _, _, _, ⟨q + 1, by go_num, by omega, H.out⟩, rfl⟩
                  case measure => simp [intOf]; omega
                · have hq6 : q = 6 := by omega
                  subst hq6
                  have HN := Lib.hid (Sep.ofBelow (then_ HB23.out H.out.base))
                  go_wp2
                  go_roundw
                  case rel => exact ⟨j + 1, by go_num, by omega, HN.out⟩
                  case measure => simp [intOf]; omega
            · have hj6 : j = 6 := by omega
              subst hj6
              have HN := Lib.hid (Sep.ofBelow (then_ HB20.out H.out.base))
              have HN2 := Lib.hid (Sep.ofBelow (then_ HB4.out HN.out.base))
              go_wp2
              go_roundw
              case rel => exact ⟨o + 1, by go_num, by omega, by omega, HN2.out⟩
              case measure => simp [intOf]; omega
    · have s1 := H.out.lit 3 #[.int .i64 2] [2] 1 v.heap.size rfl rfl (by decide)
      have HZ := Lib.hid s1
      clear s1
      go_wp2_with fail
      refine (l6same_any (ca := 0) 1 (ten_mk (HZ.out.ownInts 0 rfl).2.2 (Nat.le_refl 1) (Ints.nil_ _ none) (Nat.le_refl 0)) (Ints.nil_ _ none)).mono ?_; rintro e9 w9 ⟨rfl, hb⟩
      replace HZ := Lib.hid (HZ.out.below hb)
      clear hb
      go_wp2_with fail
      refine (l6known_any _).mono ?_; rintro e9 w9 ⟨rfl, hb⟩
      replace HZ := Lib.hid (HZ.out.below hb)
      clear hb
      go_wp2
      go_ret
      exact ⟨rfl, HZ.out.base⟩
end Go.Proofs.Ytgdgpggicgfddaa
