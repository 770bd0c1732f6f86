/- The walk of MeshPlaces. -/
import Derived.Test.YthhfjbhopenchaaL14WTells
import Derived.Test.YthhfjbhopenchaaMhC
namespace Go.Proofs.Ythhfjbhopenchaa
open Go.RowKit

set_option maxRecDepth 100000 in
set_option maxHeartbeats 12800000 in
theorem places14_walk {w : World} {p : Int} (hp : Fits p) :
    Calls Try.prog 6 #[.int .i64 p] w fun e w' => e = .returned (.bool true) ∧ Below w.heap.size w w' := by
  have HP := Lib.hid hp
  clear hp
  go_enter Try.func6, Try.ntmps6
  go_wp2_with fail
  refine (l14meshes_any w).mono ?_; rintro e1 w1 ⟨⟨v, rfl, g, rfl, hg, hM⟩, hb1⟩
  have HB1 := Lib.hid hb1
  have HM := Lib.hid hM
  clear hM hb1 hg
  go_wp2_with fail
  refine (within14_any p 10 w1 HP.out (by omega)).mono ?_; rintro e2 w2 ⟨⟨k, rfl, hk⟩, rfl⟩
  obtain ⟨s, hs⟩ : ∃ x, meshes14[k]? = some x := ⟨_, List.getElem?_eq_getElem (by show k < 11; omega)⟩
  obtain ⟨A, c, hc0, hcc, hI⟩ := HM.out k s hs
  have hmem : s ∈ elevenM := List.mem_of_getElem? hs
  obtain ⟨hr, hN1, hl3⟩ := eleven_right s hmem
  have hN8 := (Mh.size_bd s).2
  obtain ⟨N, hN⟩ := Int.eq_ofNat_of_zero_le (show 0 ≤ Mh.size s by omega)
  have HI := Lib.hid hI
  have HE := Lib.hid hmem
  have HN := Lib.hid hN
  rw [hN] at hN1 hN8
  have CD := mDevices_any (c := c) HI.out
  rw [HN.out] at CD
  obtain ⟨n, hn⟩ : ∃ n, s.length = n := ⟨_, rfl⟩
  have HLN := Lib.hid hn
  rw [hn] at hc0 hcc HI CD hl3
  clear hs hI hmem HM hr hN hn
  go_wp2_with fail
  refine CD.mono ?_; rintro e3 w3 ⟨rfl, hb3⟩
  have HB3 := Lib.hid (then_ HB1.out hb3)
  replace HI := Lib.hid (HI.out.below hb3)
  clear CD hb3 hc0 HB1
  have HX := Lib.hid (fun (w' : World) (hb : Below w3.heap.size w3 w') => HI.out.below hb)
  go_wp2_with fail
  go_loopw [6] (fun dv wr => ∃ d : Nat, dv = .int .i64 d ∧ d ≤ N ∧ Below w3.heap.size w3 wr) (fun dv _ => N - (intOf dv).toNat)
  case atStart => exact ⟨0, rfl, by omega, Below.refl _ _⟩
  case round =>
    obtain ⟨d, rfl, hd, hB⟩ := hrel
    have HB := Lib.hid hB
    clear hB
    obtain ⟨wb, rfl⟩ : ∃ wb : World, wb = wr := ⟨_, rfl⟩
    by_cases hlt : d < N
    · have d0 : decide ((d : Int) < (N : Int)) = true := by simp; omega
      have d0n : decide (d < N) = true := by simpa using hlt
      go_wp2_with fail
      go_loopw [7] (fun ev wr => ∃ e : Nat, ev = .int .i64 e ∧ e ≤ d ∧ Below w3.heap.size w3 wr) (fun ev _ => d - (intOf ev).toNat)
      case atStart => exact ⟨0, rfl, by omega, HB.out⟩
      case round =>
        clear HB
        obtain ⟨e, rfl, he, hB⟩ := hrel
        have HB := Lib.hid hB
        clear hB
        obtain ⟨wc, rfl⟩ : ∃ wc : World, wc = wr := ⟨_, rfl⟩
        by_cases hle : e < d
        · have d1 : decide ((e : Int) < (d : Int)) = true := by simp; omega
          have d1n : decide (e < d) = true := by simpa using hle
          go_wp2_with fail
          refine (mAt_any (c := c) d (HX.out _ HB.out) ⟨by omega, by omega⟩).mono ?_; rintro e4 w4 ⟨⟨A4, n4, c4, rfl, hc4, hi4⟩, hb4⟩
          have HB4 := Lib.hid (then_ HB.out hb4)
          have H4 := Lib.hid hi4
          clear hb4 hi4
          go_wp2_with fail
          refine (mAt_any (c := c) e (HX.out _ HB4.out) ⟨by omega, by omega⟩).mono ?_; rintro e5 w5 ⟨⟨A5, n5, c5, rfl, hc5, hi5⟩, hb5⟩
          have HB5 := Lib.hid (then_ HB4.out hb5)
          have CS := bookSame_any (c := c4) (d := c5) (H4.out.below hb5) hi5
          have hne : (Mh.placeOf s (d : Int) == Mh.placeOf s (e : Int)) = false := by
            have h9 := eleven_apart s HE.out d (List.mem_range.2 (by omega)) e (List.mem_range.2 (by omega)) (by rw [HN.out]; omega) hle
            simpa using h9
          rw [hne] at CS
          clear hb5 hi5 hne
          go_wp2_with fail
          refine CS.mono ?_; rintro e6 w6 ⟨rfl, z, hw⟩
          have HB6 := Lib.hid (show Below w3.heap.size w3 w6 by rw [hw]; exact below_drewN HB5.out z)
          clear CS hw
          go_wp2_with fail
          go_roundw
          case rel => exact ⟨e + 1, by go_num, by omega, HB6.out⟩
          case measure => simp [intOf]; omega
        · have d1 : decide ((e : Int) < (d : Int)) = false := by simp; omega
          have d1n : decide (e < d) = false := by simpa using hle
          by_cases hn3 : n < 3
          · have d3 : decide ((n : Int) < 3) = true := by simp; omega
            have d3n : decide (n < 3) = true := by simpa using hn3
            obtain ⟨hr1, hs1, hm1⟩ := eleven_more s HE.out (by rw [HLN.out]; exact hn3)
            have hpm : Mh.placeOf (1 :: s) (d : Int) = 0 :: Mh.placeOf s (d : Int) := by
              have h9 := List.all_eq_true.1 hm1 d (List.mem_range.2 (by omega))
              exact (of_decide_eq_true h9) (by rw [HN.out]; omega)
            have hpl : (Mh.placeOf s (d : Int)).length ≤ 3 := by
              unfold Mh.placeOf; split
              · rw [Sh.place_length, HLN.out]; exact hl3
              · exact Nat.zero_le _
            obtain ⟨PL, hPL⟩ : ∃ L, Mh.placeOf s (d : Int) = L := ⟨_, rfl⟩
            rw [hPL] at hpm hpl
            have HPL := Lib.hid hPL
            have HPM := Lib.hid hpm
            have H := Lib.hid ((Sep.nil wc).litL 3 #[.int .i64 1] [1] 1 wc.heap.size rfl rfl (by decide))
            have HIH := Lib.hid ((HX.out _ HB.out).below H.out.base)
            clear hr1 hs1 hm1 hPL hpm
            go_wp2_with (at_builtin; refine wpList_appends_gL (by rfl) (.tmp 40) (.tmp 41) 24 3 rfl Try.underlying24 Try.infoInt H.out 0 rfl rfl A n c s rfl HIH.out ?c1 ?_)
            case c1 => omega
            intro v5 w5 h5
            obtain ⟨A5, c5, rfl, _, hI5, _⟩ := (h5.ownS 0 rfl).form
            have HB5 := Lib.hid (then_ HB.out h5.base)
            have CA := mAt_any (c := c5) d hI5 ⟨by omega, by omega⟩
            rw [HPM.out] at CA
            clear h5 hI5 H HIH
            go_wp2_with fail
            refine CA.mono ?_; rintro e6 w6 ⟨⟨A6, n6, c6, rfl, hc6, hi6⟩, hb6⟩
            have HB6 := Lib.hid (then_ HB5.out hb6)
            have HI6 := Lib.hid hi6
            have H := Lib.hid ((Sep.nil w6).litL 3 #[.int .i64 0] [0] 1 w6.heap.size rfl rfl (by decide))
            clear CA hb6 hi6 HB5
            go_wp2_with fail
            refine (mAt_any (c := c) d (HX.out _ (then_ HB6.out H.out.base)) ⟨by omega, by omega⟩).mono ?_; rintro e8 w8 ⟨⟨A8, n8, c8, rfl, hc8, hi8⟩, hb8⟩
            rw [HPL.out] at hi8
            have HI8 := Lib.hid hi8
            have hn8 : n8 ≤ 3 := by have := hi8.len; omega
            replace H := Lib.hid (H.out.below hb8)
            clear hb8 hi8
            go_wp2_with (at_builtin; refine wpList_appends_gL (by rfl) (.tmp 45) (.tmp 48) 24 3 rfl Try.underlying24 Try.infoInt H.out 0 rfl rfl A8 n8 c8 PL rfl HI8.out ?c1 ?_)
            case c1 => omega
            intro v9 w9 h9
            obtain ⟨A9, c9, rfl, _, hI9, _⟩ := (h9.ownS 0 rfl).form
            have HB9 := Lib.hid (then_ HB6.out h9.base)
            have CS := bookSame_eq (c := c6) (d := c9) (xs := 0 :: PL) (HI6.out.below h9.base) hI9
            clear h9 hI9 H HB6
            go_wp2_with fail
            refine CS.mono ?_; rintro e10 w10 ⟨rfl, z, hw⟩
            have HB10 := Lib.hid (show Below w3.heap.size w3 w10 by rw [hw]; exact below_drewN HB9.out z)
            clear CS hw
            go_wp2_with fail
            go_roundw
            case rel => exact ⟨d + 1, by go_num, by omega, HB10.out⟩
            case measure => simp [intOf]; omega
          · have d3 : decide ((n : Int) < 3) = false := by simp; omega
            have d3n : decide (n < 3) = false := by simpa using hn3
            go_wp2_with fail
            go_roundw
            case rel => exact ⟨d + 1, by go_num, by omega, HB.out⟩
            case measure => simp [intOf]; omega
    · obtain rfl : d = N := by omega
      have d0 : decide ((d : Int) < (d : Int)) = false := by simp
      have d0n : decide (d < d) = false := by simp
      have dp : decide ((0 : Int) < (d : Int)) = true := by simp; omega
      have dpn : decide (0 < d) = true := by simp; omega
      have hno : Mh.placeOf s (d : Int) = [] := by unfold Mh.placeOf; rw [if_neg (by rw [HN.out]; omega)]
      have CA := mAt_any (c := c) d (HX.out _ HB.out) ⟨by omega, by omega⟩
      rw [hno] at CA
      clear hno
      go_wp2_with fail
      refine CA.mono ?_; rintro e4 w4 ⟨⟨A4, n4, c4, rfl, hc4, hi4⟩, hb4⟩
      obtain rfl : n4 = 0 := hi4.len.symm
      have HB4 := Lib.hid (then_ HB.out hb4)
      clear CA hb4 hi4 hc4
      by_cases hn3 : n = 3
      · have d3 : ((n : Int) == 3) = true := by simp; omega
        have d3n : (n == 3) = true := by simpa using hn3
        go_wp2_with fail
        refine (l14known_any w4).mono ?_; rintro e6 w6 ⟨rfl, hb6⟩
        have HB6 := Lib.hid (then_ HB3.out (then_ HB4.out hb6))
        clear hb6
        go_wp2
        go_ret
        exact ⟨by trivial, HB6.out⟩
      · have d3 : ((n : Int) == 3) = false := by simp; omega
        have d3n : (n == 3) = false := by simpa using hn3
        obtain ⟨hr1, hs1, hm1⟩ := eleven_more s HE.out (by rw [HLN.out]; omega)
        have hsz : Mh.size (1 :: s) = (d : Int) := by rw [← HN.out]; exact hs1
        have HSZ := Lib.hid hsz
        have H := Lib.hid ((Sep.nil w4).litL 3 #[.int .i64 1] [1] 1 w4.heap.size rfl rfl (by decide))
        have HIH := Lib.hid ((HX.out _ HB4.out).below H.out.base)
        clear hr1 hs1 hm1 hsz
        go_wp2_with (at_builtin; refine wpList_appends_gL (by rfl) (.tmp 67) (.tmp 68) 24 3 rfl Try.underlying24 Try.infoInt H.out 0 rfl rfl A n c s rfl HIH.out ?c1 ?_)
        case c1 => omega
        intro v5 w5 h5
        obtain ⟨A5, c5, rfl, _, hI5, _⟩ := (h5.ownS 0 rfl).form
        have HB5 := Lib.hid (then_ HB4.out h5.base)
        have CD := mDevices_any (c := c5) hI5
        rw [HSZ.out] at CD
        clear h5 hI5 H HIH
        go_wp2_with fail
        refine CD.mono ?_; rintro e6 w6 ⟨rfl, hb6⟩
        have HB6 := Lib.hid (then_ HB5.out hb6)
        clear CD hb6
        go_wp2_with fail
        refine (l14known_any w6).mono ?_; rintro e7 w7 ⟨rfl, hb7⟩
        have HB7 := Lib.hid (then_ HB3.out (then_ HB6.out hb7))
        clear hb7
        go_wp2
        go_ret
        exact ⟨by trivial, HB7.out⟩
end Go.Proofs.Ythhfjbhopenchaa
