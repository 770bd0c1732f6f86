/- The walk of the law WindowTells. -/
import Derived.Test.YtiigbkjkmfjhcaaL8Same
import Derived.Test.YtiigbkjkmfjhcaaSepB
import Derived.Test.YtiigbkjkmfjhcaaKitReg
import Derived.Test.YtiigbkjkmfjhcaaBox
namespace Go.Proofs.Ytiigbkjkmfjhcaa
open Go.RowKit

theorem and1 (n : Int) : bits .and .i64 n 1 = n % 2 := by
  have h7 : (BitVec.ofInt 64 1).toNat = 2 ^ 1 - 1 := by decide
  have key : (BitVec.ofInt 64 n &&& BitVec.ofInt 64 1).toNat = (n % ((2 ^ 64 : Nat) : Int)).toNat % 2 ^ 1 := by
    rw [BitVec.toNat_and, BitVec.toNat_ofInt, h7, Nat.and_two_pow_sub_one_eq_mod]
  show IntKind.i64.wrap ((BitVec.ofInt 64 n &&& BitVec.ofInt 64 1).toNat : Nat) = n % 2
  rw [key, IntKind.wrap_i64]
  omega
theorem and7 (n : Int) : bits .and .i64 n 7 = n % 8 := by
  have h7 : (BitVec.ofInt 64 7).toNat = 2 ^ 3 - 1 := by decide
  have key : (BitVec.ofInt 64 n &&& BitVec.ofInt 64 7).toNat = (n % ((2 ^ 64 : Nat) : Int)).toNat % 2 ^ 3 := by
    rw [BitVec.toNat_and, BitVec.toNat_ofInt, h7, Nat.and_two_pow_sub_one_eq_mod]
  show IntKind.i64.wrap ((BitVec.ofInt 64 n &&& BitVec.ofInt 64 7).toNat : Nat) = n % 8
  rw [key, IntKind.wrap_i64]
  omega
theorem and31 (n : Int) : bits .and .i64 n 31 = n % 32 := by
  have h7 : (BitVec.ofInt 64 31).toNat = 2 ^ 5 - 1 := by decide
  have key : (BitVec.ofInt 64 n &&& BitVec.ofInt 64 31).toNat = (n % ((2 ^ 64 : Nat) : Int)).toNat % 2 ^ 5 := by
    rw [BitVec.toNat_and, BitVec.toNat_ofInt, h7, Nat.and_two_pow_sub_one_eq_mod]
  show IntKind.i64.wrap ((BitVec.ofInt 64 n &&& BitVec.ofInt 64 31).toNat : Nat) = n % 32
  rw [key, IntKind.wrap_i64]
  omega
set_option maxRecDepth 100000 in
set_option maxHeartbeats 12800000 in
theorem wtells_walk {w : World} {A1 A3 A4 : Option Addr} {n1 c1 n3 c3 n4 c4 : Nat} {x0 rs rd : List Int} (how ax wide apart : Int) (h1 : Ints w A1 n1 x0)
    (h3 : Ints w A3 n3 rs) (k3 : n3 ≤ c3) (h4 : Ints w A4 n4 rd) (k4 : n4 ≤ c4) :
    Calls Try.prog 4 #[.int .i64 how, .slice A1 n1 c1, .int .i64 ax, .int .i64 wide, .int .i64 apart, .agg #[.slice A3 n3 c3, .slice A4 n4 c4]] w fun e w' => e = .returned (.bool true) ∧ Below w.heap.size w w' := by
  have q0 := Below.refl w.heap.size w
  have q1 := q0.alloc (by simp) (.cells #[.slice A3 n3 c3, .slice A4 n4 c4] 27)
  have hT := tape_new (c := c1) (h1.below q1)
  have hz1 : ((w.alloc (.cells #[.slice A3 n3 c3, .slice A4 n4 c4] 27))).heap.size = w.heap.size + 1 := by simp
  rw [hz1] at hT
  have s1 := Sep.startTape hz1 hT
  have hq0 := heap_alloc_new w (.cells #[.slice A3 n3 c3, .slice A4 n4 c4] 27)
  have H_h3 := Lib.hid (h3.below q1)
  have H_h4 := Lib.hid (h4.below q1)
  clear hT
  go_enter Try.func4, Try.ntmps4
  go_upto_region 2 with fail
  generalize ((w.alloc (.cells #[.slice A3 n3 c3, .slice A4 n4 c4] 27))).alloc (.cells #[.slice A1 n1 c1, .int .i64 0] 33) = v at *
  generalize w.alloc (.cells #[.slice A3 n3 c3, .slice A4 n4 c4] 27) = wT at *
  have HQ := Lib.hid q1
  have HZ1 := Lib.hid hz1
  have H := Lib.hid s1
  generalize hgT : w.heap.size + 1 = gT at *
  clear s1 hz1 q0 q1 h1 h3 h4
  have HR0 := Lib.hid (cell0_of hq0)
  have HR1 := Lib.hid (cell1_of hq0)
  clear hq0
  have C0 := tapeShape_any (H.out.tape 0 rfl)
  go_wp2_with fail
  refine C0.mono ?_; rintro e0 w0 ⟨⟨v, ns, s, rfl, hO, hns, hsh⟩, hR⟩
  obtain ⟨As, cs, rfl, hcs, hI, _⟩ := hO.form
  have Rs := Lib.hid (small_shape (by rw [hI.len]; exact hns) hsh)
  have Ds := Lib.hid hsh
  have Ls := Lib.hid hI.len
  replace H := Lib.hid (H.out.readOwn 0 rfl hR hO)
  clear C0 hO hI hsh hR
  have C1 := tapeTensor_any (c := cs) (H.out.tape 1 rfl) ((H.out.ownInts 0 rfl).2.2) (by omega)
  go_wp2_with fail
  refine C1.mono ?_; rintro e1 w1 ⟨⟨v, dt, rfl, hOT, hdl⟩, hR⟩
  obtain ⟨vs, vd, nt, mt, rfl, ho1, ho2⟩ := hOT
  obtain ⟨St, kt, rfl, _, _, _⟩ := ho1.form
  obtain ⟨Dt, jt, rfl, _, _, _⟩ := ho2.form
  have Lt := Lib.hid hdl
  have h5 := H.out.readOwn2 1 rfl hR ho1 ho2 (Ne.symm ty_ne.1)
  have h6 := h5.allocBox w1.heap.size 27 [.slice St nt kt, .slice Dt mt jt] rfl
  clear C1 ho1 ho2 h5 hR hdl
  go_upto_region 3 with fail
  generalize w1.alloc (.cells #[.slice St nt kt, .slice Dt mt jt] 27) = v1 at *
  generalize w1.heap.size = gt at *
  replace H := Lib.hid h6
  clear h6
  have e0_1 := and1 how
  have e0_3 := and3 how
  have e0_7 := and7 how
  have e0_31 := and31 how
  have q0a := Int.emod_nonneg how (b := 4) (by omega)
  have q0b := Int.emod_lt_of_pos how (b := 4) (by omega)
  have e1_1 := and1 ax
  have e1_3 := and3 ax
  have e1_7 := and7 ax
  have e1_31 := and31 ax
  have q1a := Int.emod_nonneg ax (b := 4) (by omega)
  have q1b := Int.emod_lt_of_pos ax (b := 4) (by omega)
  have e2_1 := and1 wide
  have e2_3 := and3 wide
  have e2_7 := and7 wide
  have e2_31 := and31 wide
  have q2a := Int.emod_nonneg wide (b := 4) (by omega)
  have q2b := Int.emod_lt_of_pos wide (b := 4) (by omega)
  have e3_1 := and1 apart
  have e3_3 := and3 apart
  have e3_7 := and7 apart
  have e3_31 := and31 apart
  have q3a := Int.emod_nonneg apart (b := 4) (by omega)
  have q3b := Int.emod_lt_of_pos apart (b := 4) (by omega)
  have t0 := H.out.cell 0 0 rfl rfl
  have t1 := H.out.cell 0 1 rfl rfl
  have C2 := l8same_any (1 + how % 4) (ax % 4) (1 + wide % 4) (1 + apart % 4) (ten_mk (H.out.ownInts 1 rfl).2.2 (H.out.ownInts 1 rfl).2.1 (H.out.ownInts 2 rfl).2.2 (H.out.ownInts 2 rfl).2.1)
  go_wp2_with fail
  refine C2.mono ?_; rintro e2 w2 ⟨rfl, hb⟩
  replace H := Lib.hid (H.out.below hb)
  clear C2 hb t0 t1
  have t0 := H.out.cell 0 0 rfl rfl
  have t1 := H.out.cell 0 1 rfl rfl
  have C3 := l8same_any how ax wide apart (ten_mk (H.out.ownInts 1 rfl).2.2 (H.out.ownInts 1 rfl).2.1 (H.out.ownInts 2 rfl).2.2 (H.out.ownInts 2 rfl).2.1)
  go_wp2_with fail
  refine C3.mono ?_; rintro e3 w3 ⟨rfl, hb⟩
  replace H := Lib.hid (H.out.below hb)
  clear C3 hb t0 t1
  have r0 := H.out.oldCell (p := ⟨w.heap.size, 0, none⟩) (by have := HZ1.out; show w.heap.size < wT.heap.size; omega) HR0.out
  have r1 := H.out.oldCell (p := ⟨w.heap.size, 1, none⟩) (by have := HZ1.out; show w.heap.size < wT.heap.size; omega) HR1.out
  have C4 := l8same_any (1 + how % 4) (ax % 2) (1 + wide % 4) 1 (H.out.oldTen (ten_mk H_h3.out k3 H_h4.out k4))
  go_wp2_with fail
  refine C4.mono ?_; rintro e4 w4 ⟨rfl, hb⟩
  replace H := Lib.hid (H.out.below hb)
  clear C4 hb 
  clear r0 r1
  obtain ⟨z, hz⟩ : ∃ z, winN (wide % 32) (ax % 8) (apart % 8) = z := ⟨_, rfl⟩
  have dz : (z == z) = true := by simp
  have CC := fun w => wdOut_any (wide % 32) (ax % 8) (apart % 8) ⟨by omega, by omega⟩ ⟨by omega, by omega⟩ ⟨by omega, by omega⟩ w
  simp only [hz] at CC
  go_wp2_with fail
  refine (CC _).mono ?_; rintro e9 w9 ⟨rfl, rfl⟩
  clear CC
  have CC := fun w => ref8Windows_any (wide % 32) (ax % 8) (apart % 8) ⟨by omega, by omega⟩ ⟨by omega, by omega⟩ ⟨by omega, by omega⟩ w
  simp only [hz] at CC
  go_wp2_with fail
  refine (CC _).mono ?_; rintro e9 w9 ⟨rfl, rfl⟩
  clear CC
  clear hz
  go_wp2_with fail
  refine (l8known_any _).mono ?_; rintro e9 w9 ⟨rfl, hb⟩
  replace H := Lib.hid (H.out.below hb)
  clear hb
  go_wp2
  go_ret
  exact ⟨rfl, then_ HQ.out H.out.base⟩
end Go.Proofs.Ytiigbkjkmfjhcaa
