/- The walk of MeshSteps. -/
import Derived.Test.YthhfjbhopenchaaL14WTells
import Derived.Test.YthhfjbhopenchaaMhC
namespace Go.Proofs.Ythhfjbhopenchaa
open Go.RowKit

theorem eleven_own : ∀ s ∈ elevenM, ∀ k ∈ List.range 8, ∀ a ∈ List.range 3, (k : Int) < Mh.size s → a < s.length →
    0 ≤ (Sh.place s k).getD a 0 ∧ (Sh.place s k).getD a 0 < s.getD a 0 ∧ (Mh.group s k a).getD ((Sh.place s k).getD a 0).toNat 0 = (k : Int) := by decide +kernel
/-- Steps among the eleven meshes: there and back, round. -/
theorem eleven_steps {s : List Int} {k a : Nat} {m : Int} (hs : s ∈ elevenM) (hk8 : k < 8) (ha3 : a < 3) (hk : (k : Int) < Mh.size s) (ha : a < s.length) :
    ∃ e : Nat, Mh.step s k a m = (e : Int) ∧ e < 8 ∧ Mh.step s e a (-m) = (k : Int) ∧ Mh.step s k a (m + s.getD a 0) = (e : Int) := by
  obtain ⟨g1, g2, g3⟩ := eleven_group s hs k (List.mem_range.2 hk8) a (List.mem_range.2 ha3) hk ha
  have g4 := eleven_at s hs k (List.mem_range.2 hk8) a (List.mem_range.2 ha3) hk ha
  obtain ⟨x0, x1, x2⟩ := eleven_own s hs k (List.mem_range.2 hk8) a (List.mem_range.2 ha3) hk ha
  obtain ⟨x, hx⟩ : ∃ x, (Sh.place s k).getD a 0 = x := ⟨_, rfl⟩
  obtain ⟨G, hG⟩ : ∃ G, Mh.group s k a = G := ⟨_, rfl⟩
  rw [hx] at x0 x1 x2
  rw [hG] at g1 g2 g3 g4 x2
  rw [← g1] at x1
  have hL : 0 < (G.length : Int) := by omega
  obtain ⟨j0, j1⟩ := Mh.turn_bd (x := x) (b := m) hL
  obtain ⟨j, hj⟩ := Int.eq_ofNat_of_zero_le j0
  have hjl : j < G.length := by rw [hj] at j1; omega
  have hL8 : G.length ≤ 8 := by
    have h9 : ∀ s ∈ elevenM, ∀ a ∈ List.range 3, s.getD a 0 ≤ 8 := by decide +kernel
    have := h9 s hs a (List.mem_range.2 ha3); omega
  have hmem : G.getD j 0 ∈ G := by rw [List.getD_eq_getElem?_getD, List.getElem?_eq_getElem hjl]; exact List.getElem_mem hjl
  have hall := List.all_eq_true.1 g3 _ hmem
  simp only [Bool.and_eq_true, decide_eq_true_eq] at hall
  obtain ⟨⟨e0, e1⟩, e2⟩ := hall
  obtain ⟨e, he⟩ := Int.eq_ofNat_of_zero_le e0
  rw [he] at e1 e2
  have hstep : ∀ b, Mh.step s k a b = G.getD (Mh.turn x b G.length).toNat 0 := fun b => by
    unfold Mh.step
    rw [hG, if_neg (by omega), Int.toNat_natCast, hx]
  have hat : (Sh.place s e).getD a 0 = (j : Int) := by
    have := List.all_eq_true.1 g4 j (List.mem_range.2 (by omega))
    have := (of_decide_eq_true this) hjl
    rw [he] at this; exact this
  refine ⟨e, by rw [hstep, hj, Int.toNat_natCast, he], by have := (Mh.size_bd s).2; omega, ?_, ?_⟩
  · unfold Mh.step
    rw [e2, if_neg (by omega), Int.toNat_natCast, hat, ← hj, Mh.turn_back x0 x1]
    exact x2
  · rw [hstep, ← g1, Mh.turn_round hL, hj, Int.toNat_natCast, he]
theorem within99_any (a : Int) (w : World) (hf : Fits a) :
    Calls Try.prog 11 #[.int .i64 a, .int .i64 (-99), .int .i64 99] w fun e w' => (∃ m, e = .returned (.int .i64 m) ∧ -99 ≤ m ∧ m ≤ 99) ∧ w = w' := by
  obtain ⟨h1, h2⟩ := hf
  by_cases h0 : -99 ≤ a
  · by_cases hb : a ≤ 99
    · go_enter Try.func11, Try.ntmps11
      go_wp2
      go_ret
      exact ⟨⟨_, rfl, h0, hb⟩, rfl⟩
    · go_enter Try.func11, Try.ntmps11
      have hm := Int.emod_nonneg a (b := 199) (by omega)
      have hm2 := Int.emod_lt_of_pos a (b := 199) (by omega)
      go_wp2
      go_ret
      exact ⟨⟨_, rfl, by omega, by omega⟩, rfl⟩
  · have hlt : a < 0 := by omega
    have hm : -199 < a.tmod 199 ∧ a.tmod 199 ≤ 0 := by
      have e : a = -(-a) := by omega
      rw [e, Int.neg_tmod, Int.tmod_eq_emod_of_nonneg (by omega : 0 ≤ -a)]
      omega
    obtain ⟨hm1, hm2⟩ := hm
    by_cases ht : a.tmod 199 < 0
    · go_enter Try.func11, Try.ntmps11
      go_wp2
      go_ret
      exact ⟨⟨_, rfl, by omega, by omega⟩, rfl⟩
    · go_enter Try.func11, Try.ntmps11
      go_wp2
      go_ret
      exact ⟨⟨_, rfl, by omega, by omega⟩, rfl⟩
theorem count_take {G : List Int} {j : Nat} {x k : Int} (h : G[j]? = some x) : (G.take (j + 1)).count k = (G.take j).count k + (if x = k then 1 else 0) := by
  rw [List.take_add_one, h]
  show List.count k (G.take j ++ [x]) = _
  rw [List.count_append, List.count_singleton]
  by_cases e : x = k
  · subst e; simp
  · simp [e]
set_option maxRecDepth 100000 in
set_option maxHeartbeats 12800000 in
theorem steps14_walk {w : World} {p d ax by_ : Int} (hp : Fits p) (hd : Fits d) (hax : Fits ax) (hby : Fits by_) :
    Calls Try.prog 5 #[.int .i64 p, .int .i64 d, .int .i64 ax, .int .i64 by_] w fun e w' => e = .returned (.bool true) ∧ Below w.heap.size w w' := by
  have HP := Lib.hid hp
  have HD := Lib.hid hd
  have HAX := Lib.hid hax
  have HBY := Lib.hid hby
  clear hp hd hax hby
  go_enter Try.func5, Try.ntmps5
  go_wp2_with fail
  refine (l14meshes_any w).mono ?_; rintro e1 w1 ⟨⟨v, rfl, g, rfl, hg, hM⟩, hb1⟩
  have HB1 := Lib.hid hb1
  have HM := Lib.hid hM
  clear hM hb1 hg
  go_wp2_with fail
  refine (within14_any p 10 w1 HP.out (by omega)).mono ?_; rintro e2 w2 ⟨⟨q, rfl, hq⟩, rfl⟩
  obtain ⟨s, hs⟩ : ∃ x, meshes14[q]? = some x := ⟨_, List.getElem?_eq_getElem (by show q < 11; omega)⟩
  obtain ⟨A, c, hc0, hcc, hI⟩ := HM.out q s hs
  have hmem : s ∈ elevenM := List.mem_of_getElem? hs
  obtain ⟨hr, hN1, hl3⟩ := eleven_right s hmem
  have hN8 := (Mh.size_bd s).2
  obtain ⟨N, hN⟩ : ∃ N : Nat, Mh.size s = ((N + 1 : Nat) : Int) := ⟨(Mh.size s - 1).toNat, by omega⟩
  have HI := Lib.hid hI
  have HE := Lib.hid hmem
  have HN := Lib.hid hN
  rw [hN] at hN1 hN8
  have CD := mDevices_any (c := c) HI.out
  rw [HN.out] at CD
  obtain ⟨n, hn⟩ : ∃ n, s.length = n := ⟨_, rfl⟩
  have HLN := Lib.hid hn
  rw [hn] at hc0 hcc HI CD hl3
  clear hs hI hmem HM hr hN hn
  go_wp2_with fail
  refine CD.mono ?_; rintro e3 w3 ⟨rfl, hb3⟩
  have HB3 := Lib.hid (then_ HB1.out hb3)
  replace HI := Lib.hid (HI.out.below hb3)
  clear CD hb3 hc0 HB1
  have HX := Lib.hid (fun (w' : World) (hb : Below w3.heap.size w3 w') => HI.out.below hb)
  have hN7 : N ≤ 7 := by omega
  have d1 : decide ((N : Int) + 1 < 1) = false := decide_eq_false (by omega)
  clear hN1 hN8
  go_wp2_with fail
  refine (within14_any d N w3 HD.out (by omega)).mono ?_; rintro e4 w4 ⟨⟨k, rfl, hk⟩, rfl⟩
  have hksz : (k : Int) < Mh.size s := by rw [HN.out]; omega
  have HKS := Lib.hid hksz
  have hpl : Mh.placeOf s (k : Int) = Sh.place s k := by unfold Mh.placeOf; rw [if_pos ⟨by omega, hksz⟩]
  have hix : Mh.index s (Sh.place s k) = (k : Int) := Mh.index_place (by omega) hksz
  have HPL := Lib.hid hpl
  have HIX := Lib.hid hix
  clear hksz hpl hix
  go_wp2_with fail
  refine (mAt_any (c := c) k HI.out ⟨by omega, by omega⟩).mono ?_; rintro e5 w5 ⟨⟨A5, n5, c5, rfl, hc5, hi5⟩, hb5⟩
  rw [HPL.out] at hi5
  have HB5 := Lib.hid hb5
  have CO := mOf_any (c := c) (d := c5) (HX.out w5 hb5) hi5
  rw [HIX.out] at CO
  clear hb5 hi5
  go_wp2_with fail
  refine CO.mono ?_; rintro e6 w6 ⟨rfl, hb6⟩
  have HB6 := Lib.hid (then_ HB5.out hb6)
  clear CO hb6 HB5
  by_cases hn0 : n = 0
  · subst hn0
    have hg0 : Mh.group s k ax = [] := by
      refine List.eq_nil_of_length_eq_zero (Decidable.byContradiction fun h => ?_)
      have := Mh.group_cond h
      have := HLN.out
      omega
    have CG := mGroup_any (c := c) k ax (HX.out w6 HB6.out) ⟨by omega, by omega⟩ HAX.out
    rw [hg0] at CG
    clear hg0
    go_wp2_with fail
    refine CG.mono ?_; rintro e7 w7 ⟨⟨A7, n7, c7, rfl, hc7, hi7⟩, hb7⟩
    obtain rfl : n7 = 0 := hi7.len.symm
    have HB7 := Lib.hid (then_ HB6.out hb7)
    clear CG hb7 hi7 hc7
    go_wp2_with fail
    refine (l14known_any w7).mono ?_; rintro e8 w8 ⟨rfl, hb8⟩
    have HB8 := Lib.hid (then_ HB3.out (then_ HB7.out hb8))
    clear hb8
    go_wp2
    go_ret
    exact ⟨by trivial, HB8.out⟩
  · obtain ⟨n1, rfl⟩ : ∃ n1, n = n1 + 1 := ⟨n - 1, by omega⟩
    have dn0 : ((n1 : Int) + 1 == 0) = false := by simp; omega
    clear hn0
    go_wp2_with fail
    refine (within14_any ax n1 w6 HAX.out (by omega)).mono ?_; rintro e7 w7 ⟨⟨a, rfl, ha⟩, rfl⟩
    go_wp2_with fail
    refine (within99_any by_ w6 HBY.out).mono ?_; rintro e8 w8 ⟨⟨m, rfl, hm1, hm2⟩, rfl⟩
    have hal : a < s.length := by rw [HLN.out]; omega
    obtain ⟨e, he, he8, hst2, hst3⟩ := eleven_steps (m := m) HE.out (show k < 8 by omega) (show a < 3 by omega) HKS.out hal
    obtain ⟨g1, g2, g3⟩ := eleven_group s HE.out k (List.mem_range.2 (by omega)) a (List.mem_range.2 (by omega)) HKS.out hal
    obtain ⟨ad, z, hA, _, hz, _, hfz⟩ := HI.out.at_ (show a < n1 + 1 by omega)
    subst hA
    have hzd : s.getD a 0 = z := by rw [List.getD_eq_getElem?_getD, hz]; rfl
    rw [hzd] at g1 hst3
    have hz8 : 1 ≤ z ∧ z ≤ 8 := (Mh.right_iff.1 (eleven_right s HE.out).1).2.1 z (List.mem_of_getElem? hz)
    obtain ⟨hz1, hz8⟩ := hz8
    have HCZ := Lib.hid (fun (w' : World) (hb : Below w3.heap.size w3 w') => (HX.out w' hb).get hz)
    obtain ⟨G, hG⟩ : ∃ G, Mh.group s k a = G := ⟨_, rfl⟩
    rw [hG] at g1 g2 g3
    have CS := mStep_any (c := c) k a m (HX.out w6 HB6.out) ⟨by omega, by omega⟩ ⟨by omega, by omega⟩ ⟨by omega, by omega⟩
    rw [he] at CS
    have HG1 := Lib.hid g1
    have HG2 := Lib.hid g2
    have HG3 := Lib.hid g3
    have HST2 := Lib.hid hst2
    have HST3 := Lib.hid hst3
    have HG := Lib.hid hG
    clear g1 g2 g3 he hst2 hst3 hG hzd hz hfz hal
    go_wp2_with fail
    refine CS.mono ?_; rintro e9 w9 ⟨rfl, hb9⟩
    have HB9 := Lib.hid (then_ HB6.out hb9)
    have CG := mGroup_any (c := c) k a (HX.out w9 HB9.out) ⟨by omega, by omega⟩ ⟨by omega, by omega⟩
    rw [HG.out] at CG
    clear CS hb9
    go_wp2_with fail
    refine CG.mono ?_; rintro e10 w10 ⟨⟨B, nG, cG, rfl, hcG, hiG⟩, hb10⟩
    have HB10 := Lib.hid (then_ HB9.out hb10)
    have hnG := hiG.len
    have HIG := Lib.hid (fun (w' : World) (hb : Below w10.heap.size w10 w') => hiG.below hb)
    have hnz : (nG : Int) = z := by rw [← HG1.out, hnG]
    have HNG := Lib.hid hnG
    clear CG hb10 hiG hnG
    go_wp2_with fail
    go_loopw [74, 17] (fun iv cv wr => ∃ j : Nat, iv = .int .i64 j ∧ j ≤ nG ∧ cv = .int .i64 ((G.take j).count (k : Int) : Nat) ∧ Below w10.heap.size w10 wr) (fun iv _ _ => nG - (intOf iv).toNat)
    case atStart => exact ⟨0, rfl, by omega, rfl, Below.refl _ _⟩
    case round =>
      obtain ⟨j, rfl, hj, rfl, hB⟩ := hrel
      have HB := Lib.hid hB
      clear hB
      by_cases hlt : j < nG
      · have d0 : decide ((j : Int) < (nG : Int)) = true := decide_eq_true (by omega)
        obtain ⟨bd, x, hA, _, hx, hcx, hfx⟩ := (HIG.out wr HB.out).at_ hlt
        subst hA
        have hct := count_take (k := (k : Int)) hx
        have hxm := List.all_eq_true.1 HG3.out x (List.mem_of_getElem? hx)
        simp only [Bool.and_eq_true, decide_eq_true_eq] at hxm
        obtain ⟨⟨x0, x1⟩, x2⟩ := hxm
        have hxf : Fits x := hfx
        have hcl : (G.take j).count (k : Int) ≤ 8 := Nat.le_trans List.count_le_length (by rw [List.length_take]; omega)
        obtain ⟨ct, hcte⟩ : ∃ q, (G.take j).count (k : Int) = q := ⟨_, rfl⟩
        rw [hcte] at hct hcl ⊢
        have HCT := Lib.hid hct
        have CX := mGroup_any (c := c) x a (HX.out wr (then_ HB10.out HB.out)) hxf ⟨by omega, by omega⟩
        rw [x2] at CX
        have HCX := Lib.hid CX
        have HHX := Lib.hid hx
        clear CX hct hcte hx hfx x0 x1 x2 hxf
        by_cases hxk : x = (k : Int)
        · subst hxk
          have dk : ((k : Int) == (k : Int)) = true := by simp
          have HC1 := Lib.hid (show (G.take (j + 1)).count (k : Int) = ct + 1 by rw [HCT.out, if_pos rfl])
          go_wp2_with fail
          refine HCX.out.mono ?_; rintro e11 w11 ⟨⟨C, nC, cC, rfl, hcC, hiC⟩, hb11⟩
          have HB11 := Lib.hid (then_ HB.out hb11)
          have CB := bookSame_eq (c := cC) (d := cG) (xs := G) hiC (HIG.out w11 HB11.out)
          clear hb11 hiC hcx
          go_wp2_with fail
          refine CB.mono ?_; rintro e12 w12 ⟨rfl, z9, hw⟩
          have HB12 := Lib.hid (show Below w10.heap.size w10 w12 by rw [hw]; exact below_drewN HB11.out z9)
          clear CB hw
          go_wp2_with fail
          go_roundw
          case rel => exact ⟨j + 1, by go_num, by omega, by rw [HC1.out]; go_num, HB12.out⟩
          case measure => simp [intOf]; omega
        · have dk : (x == (k : Int)) = false := by simpa using hxk
          have HC1 := Lib.hid (show (G.take (j + 1)).count (k : Int) = ct by rw [HCT.out, if_neg hxk]; rfl)
          clear hxk
          go_wp2_with fail
          refine HCX.out.mono ?_; rintro e11 w11 ⟨⟨C, nC, cC, rfl, hcC, hiC⟩, hb11⟩
          have HB11 := Lib.hid (then_ HB.out hb11)
          have CB := bookSame_eq (c := cC) (d := cG) (xs := G) hiC (HIG.out w11 HB11.out)
          clear hb11 hiC hcx
          go_wp2_with fail
          refine CB.mono ?_; rintro e12 w12 ⟨rfl, z9, hw⟩
          have HB12 := Lib.hid (show Below w10.heap.size w10 w12 by rw [hw]; exact below_drewN HB11.out z9)
          clear CB hw
          go_wp2_with fail
          go_roundw
          case rel => exact ⟨j + 1, by go_num, by omega, by rw [HC1.out], HB12.out⟩
          case measure => simp [intOf]; omega
      · obtain rfl : nG = j := by omega
        have d0 : decide ((nG : Int) < (nG : Int)) = false := by simp
        have hall : (G.take nG).count (k : Int) = 1 := by rw [List.take_of_length_le (by rw [HNG.out]; exact Nat.le_refl _)]; exact HG2.out
        rw [hall]
        clear hall
        have hBr := then_ HB10.out HB.out
        have HBR := Lib.hid hBr
        have C1 := mStep_any (c := c) e a (-m) (HX.out wr hBr) ⟨by omega, by omega⟩ ⟨by omega, by omega⟩ ⟨by omega, by omega⟩
        rw [HST2.out] at C1
        clear hBr
        go_wp2_with fail
        refine C1.mono ?_; rintro e11 w11 ⟨rfl, hb11⟩
        have HB11 := Lib.hid (then_ HBR.out hb11)
        have hcz := HCZ.out w11 HB11.out
        have C2 := mStep_any (c := c) k a (m + z) (HX.out w11 HB11.out) ⟨by omega, by omega⟩ ⟨by omega, by omega⟩ ⟨by omega, by omega⟩
        rw [HST3.out] at C2
        clear C1 hb11
        go_wp2_with fail
        refine C2.mono ?_; rintro e12 w12 ⟨rfl, hb12⟩
        have HB12 := Lib.hid (then_ HB11.out hb12)
        have hcz := HCZ.out w12 HB12.out
        have dz : ((nG : Int) == z) = true := by rw [hnz]; simp
        clear C2 hb12
        go_wp2_with fail
        refine (l14known_any w12).mono ?_; rintro e13 w13 ⟨rfl, hb13⟩
        have HB13 := Lib.hid (then_ HB3.out (then_ HB12.out hb13))
        clear hb13
        go_wp2
        go_ret
        exact ⟨by trivial, HB13.out⟩
end Go.Proofs.Ythhfjbhopenchaa
