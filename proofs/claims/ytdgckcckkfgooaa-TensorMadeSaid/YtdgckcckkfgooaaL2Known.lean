/- The law function known of stage 2. -/
import Derived.Test.YtdgckcckkfgooaaTenD
import Derived.Deep.DeepCutAuto
namespace Go.Proofs.Ytdgckcckkfgooaa
open Go.RowKit

/-- A tensor's two lists. -/
theorem ten_ints {w : World} {A B : Option Addr} {n c m e : Nat} {s d : List Int} (h : Ten w (.agg #[.slice A n c, .slice B m e]) s d) : Ints w A n s ∧ Ints w B m d := by
  obtain ⟨A', n', c', B', m', e', h1, _, _, h2, h3⟩ := h
  simp only [Value.agg.injEq, Array.mk.injEq, List.cons.injEq, Value.slice.injEq, and_true] at h1
  obtain ⟨⟨rfl, rfl, rfl⟩, rfl, rfl, rfl⟩ := h1
  exact ⟨h2, h3⟩

set_option maxRecDepth 100000 in
set_option maxHeartbeats 3200000 in
theorem l2known_any (w : World) :
    Calls Try.prog 10 #[] w fun e w' => e = .returned (.bool true) ∧ Below w.heap.size w w' := by
  have E1 := Lib.hid (show iotaErr [2, 2] 1 = 0 ∧ iotaS [2, 2] 1 = [2, 2] ∧ iotaD [2, 2] 1 = [0, 1, 0, 1] by decide)
  have E2 := Lib.hid (show iotaErr [2] 1 = 1 by decide)
  have E3 := Lib.hid (show tenGet [2, 2] [0, 1, 0, 1] [1, 1] = 1 ∧ tenHas [2, 2] [0, 1, 0, 1] [1, 1] = true by decide)
  have E4 := Lib.hid (show tenHas [2, 2] [0, 1, 0, 1] [0, 0] = true ∧ setS [2, 2] [0, 1, 0, 1] [0, 0] = [2, 2] ∧ setD [2, 2] [0, 1, 0, 1] [0, 0] 9 = [9, 1, 0, 1] by decide)
  have E5 := Lib.hid (show tenRight [2, 2] [0, 1, 0, 1] = true ∧ tenRight [] [] = false by decide)
  go_enter Try.func10, Try.ntmps10
  go_wp2_with fail
  refine (tIota_any 1 (ints_lit w 3 _ _ _ [2, 2] (by rfl) (by rfl) (by decide)) ⟨by omega, by omega⟩).mono ?_; rw [E1.out.1, E1.out.2.1, E1.out.2.2]; rintro e w1 ⟨⟨va, rfl, hva⟩, hb1⟩
  obtain ⟨A1, n1, c1, B1, m1, e1, rfl, hnc1, hme1, hS1, hD1⟩ := hva.ten
  have hb1 := then_ ((Below.refl _ _).alloc (Nat.le_refl _) _) hb1
  have hg1 := heap_alloc_new w1 (.cells #[.slice A1 n1 c1, .slice B1 m1 e1] 26)
  have hx1 := (Below.refl w1.heap.size w1).alloc (Nat.le_refl _) (.cells #[.slice A1 n1 c1, .slice B1 m1 e1] 26)
  have HT := Lib.hid ((ten_mk hS1 hnc1 hD1 hme1).below hx1)
  have HB := Lib.hid (then_ hb1 hx1)
  clear hx1 hb1 hS1 hD1 hva
  go_upto_region 2 with fail
  generalize w1.alloc (.cells #[.slice A1 n1 c1, .slice B1 m1 e1] 26) = w2 at *
  have HA0 := Lib.hid (cell0_of hg1)
  have HA1 := Lib.hid (cell1_of hg1)
  generalize w1.heap.size = ga at *
  clear hg1
  go_wp2_with fail
  refine (tIota_any 1 (ints_lit w2 3 _ _ _ [2] (by rfl) (by rfl) (by decide)) ⟨by omega, by omega⟩).mono ?_; rw [E2.out]; rintro e w3 ⟨⟨vb, rfl, hvb⟩, hb3⟩
  obtain ⟨A2, n2, c2, B2, m2, e2, rfl, _, _, _, _⟩ := hvb.ten
  have hx3 := (Below.refl w3.heap.size w3).alloc (Nat.le_refl _) (.cells #[.slice A2 n2 c2, .slice B2 m2 e2] 26)
  have hy3 := then_ (then_ ((Below.refl _ _).alloc (Nat.le_refl _) _) hb3) hx3
  replace HT := Lib.hid (HT.out.below hy3)
  replace HA0 := Lib.hid (box_keep hy3 HA0.out)
  replace HA1 := Lib.hid (box_keep hy3 HA1.out)
  replace HB := Lib.hid (then_ HB.out hy3)
  clear hx3 hb3 hy3 hvb
  go_upto_region 3 with fail
  generalize w3.alloc (.cells #[.slice A2 n2 c2, .slice B2 m2 e2] 26) = w4 at *
  have a0 := HA0.out
  have a1 := HA1.out
  go_wp2_with fail
  refine (tGet_any (p := [1, 1]) (HT.out.below ((Below.refl _ _).alloc (Nat.le_refl _) _)) (ints_lit w4 3 _ _ _ [1, 1] (by rfl) (by rfl) (by decide))).mono ?_; rw [E3.out.1, E3.out.2]; rintro e w5 ⟨rfl, hb5⟩
  have hy5 := then_ ((Below.refl w4.heap.size w4).alloc (Nat.le_refl _) (.cells #[.int .i64 1, .int .i64 1] 3)) hb5
  replace HT := Lib.hid (HT.out.below hy5)
  replace HA0 := Lib.hid (box_keep hy5 HA0.out)
  replace HA1 := Lib.hid (box_keep hy5 HA1.out)
  replace HB := Lib.hid (then_ HB.out hy5)
  clear hb5 hy5 a0 a1
  have a0 := HA0.out
  have a1 := HA1.out
  go_wp2_with fail
  refine (tSet_any (p := [0, 0]) 9 (HT.out.below ((Below.refl _ _).alloc (Nat.le_refl _) _)) (ints_lit w5 3 _ _ _ [0, 0] (by rfl) (by rfl) (by decide)) ⟨by omega, by omega⟩).mono ?_; rw [E4.out.1, E4.out.2.1, E4.out.2.2]; rintro e w6 ⟨⟨vu, rfl, hvu⟩, hb6⟩
  obtain ⟨A3, n3, c3, B3, m3, e3, rfl, hnc3, hme3, hS3, hD3⟩ := hvu.ten
  obtain rfl : m3 = 4 := hD3.len.symm
  have hg6 := heap_alloc_new w6 (.cells #[.slice A3 n3 c3, .slice B3 4 e3] 26)
  have hx6 := (Below.refl w6.heap.size w6).alloc (Nat.le_refl _) (.cells #[.slice A3 n3 c3, .slice B3 4 e3] 26)
  have hy6 := then_ (then_ ((Below.refl w5.heap.size w5).alloc (Nat.le_refl _) (.cells #[.int .i64 0, .int .i64 0] 3)) hb6) hx6
  replace HT := Lib.hid (HT.out.below hy6)
  have HU := Lib.hid ((ten_mk hS3 hnc3 hD3 hme3).below hx6)
  replace HA0 := Lib.hid (box_keep hy6 HA0.out)
  replace HA1 := Lib.hid (box_keep hy6 HA1.out)
  replace HB := Lib.hid (then_ HB.out hy6)
  have hD6 := hD3.below hx6
  clear hb6 hy6 a0 a1 hvu hS3 hD3 hx6
  go_upto_region 5 with fail
  generalize w6.alloc (.cells #[.slice A3 n3 c3, .slice B3 4 e3] 26) = w7 at *
  have HU0 := Lib.hid (cell0_of hg6)
  have HU1 := Lib.hid (cell1_of hg6)
  generalize w6.heap.size = gu at *
  clear hg6
  obtain ⟨bd, x, rfl, hbl, hxx, hcx, _⟩ := hD6.at_ (k := 0) (by omega)
  obtain rfl : x = 9 := by simp at hxx; omega
  clear hxx
  have a0 := HA0.out
  have a1 := HA1.out
  have u0 := HU0.out
  have u1 := HU1.out
  have hcx0 : w7.cell? bd = some (.int .i64 9) := by
    have := hcx
    rwa [show bd.add 0 = bd by cases bd; rfl] at this
  go_wp2_with fail
  refine (tRight_any HT.out).mono ?_; rw [E5.out.1]; rintro e w8 ⟨rfl, hb8⟩
  replace HT := Lib.hid (HT.out.below hb8)
  replace HU := Lib.hid (HU.out.below hb8)
  replace HA0 := Lib.hid (box_keep hb8 HA0.out)
  replace HA1 := Lib.hid (box_keep hb8 HA1.out)
  replace HU0 := Lib.hid (box_keep hb8 HU0.out)
  replace HU1 := Lib.hid (box_keep hb8 HU1.out)
  replace HB := Lib.hid (then_ HB.out hb8)
  clear hb8 a0 a1 u0 u1 hcx0 hcx hbl hD6
  go_wp2_with fail
  refine (tRight_any (s := []) (d := []) ⟨none, 0, 0, none, 0, 0, rfl, by omega, by omega, Ints.nil_ _ _, Ints.nil_ _ _⟩).mono ?_; rw [E5.out.2]; rintro e w9 ⟨rfl, hb9⟩
  replace HT := Lib.hid (HT.out.below hb9)
  replace HU := Lib.hid (HU.out.below hb9)
  replace HA0 := Lib.hid (box_keep hb9 HA0.out)
  replace HA1 := Lib.hid (box_keep hb9 HA1.out)
  replace HU0 := Lib.hid (box_keep hb9 HU0.out)
  replace HU1 := Lib.hid (box_keep hb9 HU1.out)
  replace HB := Lib.hid (then_ HB.out hb9)
  clear hb9
  have a0 := HA0.out
  have a1 := HA1.out
  go_wp2_with fail
  refine (tSame_any HT.out HT.out).mono ?_; rintro e w10 ⟨rfl, hb10⟩
  replace HT := Lib.hid (HT.out.below hb10)
  replace HU := Lib.hid (HU.out.below hb10)
  replace HA0 := Lib.hid (box_keep hb10 HA0.out)
  replace HA1 := Lib.hid (box_keep hb10 HA1.out)
  replace HU0 := Lib.hid (box_keep hb10 HU0.out)
  replace HU1 := Lib.hid (box_keep hb10 HU1.out)
  replace HB := Lib.hid (then_ HB.out hb10)
  clear hb10 a0 a1
  have a0 := HA0.out
  have a1 := HA1.out
  have u0 := HU0.out
  have u1 := HU1.out
  go_wp2_with fail
  refine (tSame_any HT.out HU.out).mono ?_; rintro e w11 ⟨rfl, hb11⟩
  replace HB := Lib.hid (then_ HB.out hb11)
  clear hb11
  go_wp2
  go_ret
  exact ⟨rfl, HB.out⟩
end Go.Proofs.Ytdgckcckkfgooaa
