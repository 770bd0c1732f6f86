/- Contracts of package names. -/
import Derived.Test.YtpceebpihojdcaaNamesW
namespace Go.Proofs.Ytpceebpihojdcaa
open Go.RowKit

theorem Try.infoR9 : (Try.prog.info? 21).map (fun i => (i.zero, i.size, i.bytes)) = some (some (.int .i32 0), 1, 4) := by kernel_rfl
set_option maxRecDepth 100000 in
set_option maxHeartbeats 1600000 in
theorem nRunes_any (w : World) (s : ByteArray) (hs : s.size ≤ 17592186044000) :
    Calls Try.prog 20 #[.string s] w fun e w' => (∃ v n, e = .returned v ∧ OwnRS w' w.heap.size 21 v n (runesOf s)) ∧ Below w.heap.size w w' := by
  have C0 := runeCount_any s w hs
  have HS := Lib.hid hs
  clear hs
  go_enter Try.func20, Try.ntmps20
  go_wp2_with fail
  refine C0.mono ?_; rintro e1 w1 ⟨⟨N, hN, rfl⟩, hb1⟩
  have hmk := run_make_roomR (t := 33) (e := 21) Try.underlying33 Try.infoR9 (n := N) (by have := HS.out; omega)
  have hz1 := hb1.size
  have hOm := ownRS_room (base := w.heap.size) w1 hz1 21 N (by have := HS.out; omega)
  have hBm := hb1.alloc hz1 (.cells (noughtsR N) 21)
  have hzm : (w1.alloc (.cells (noughtsR N) 21)).heap.size = w1.heap.size + 1 := by simp
  have hR := rit_start (w1.alloc (.cells (noughtsR N) 21)) s
  have hOi := hOm.alloc (.stringIter s 0)
  have hBi := hBm.alloc (by rw [hzm]; omega) (.stringIter s 0)
  rw [hzm] at hR
  have HR := Lib.hid hR
  have HO := Lib.hid hOi
  have HB := Lib.hid hBi
  have hK : w.heap.size < w1.heap.size + 1 := by omega
  have HK := Lib.hid hK
  clear hR hOi hBi hOm hBm hzm hz1 C0 hb1 hK
  go_wp2_with fail
  go_loopw [3] (fun v wr => ∃ (pos k : Nat), RIt wr (w1.heap.size + 1) s pos k ∧ OwnRS wr w.heap.size 21 v k ((runesOf s).take k) ∧ Below w.heap.size w wr) (fun _ wr => s.size - wr.iterPos (w1.heap.size + 1))
  case atStart => exact ⟨0, 0, HR.out, HO.out, HB.out⟩
  case round =>
    obtain ⟨pos, k, hI, hO, hB⟩ := hrel
    have HI := Lib.hid hI
    have HOW := Lib.hid hO
    have HBW := Lib.hid hB
    by_cases hlt : pos < s.size
    · obtain ⟨w2, r, d, hnx, hI2, hd, hx, hf, hB2, hg⟩ := rit_next hI hlt hB (by have := HK.out; omega)
      have hO2 := hO.grownNe hg (fun j hj => by have := hO.apartIter hI.1; intro e; injection e with e; subst e; exact this hj)
      have HI2 := Lib.hid hI2
      have HO2 := Lib.hid hO2
      have HB2 := Lib.hid hB2
      have HF := Lib.hid hf
      have HX := Lib.hid hx
      have hkb := rit_bd hI hlt
      have hs := HS.out
      clear hI hI2 hO hO2 hB hB2 hf hg hx
      go_wp2_with (at_builtin; refine wpList_append_rune rfl _ _ 33 21 rfl Try.underlying33 Try.infoR9 w.heap.size _ k _ rfl HO2.out ?c1 r ?c2 _ rfl ?c3 ?_)
      case c1 => exact HB2.out.size
      case c2 => exact HF.out
      case c3 => omega
      intro v' w3 hO3 hB3 hg3
      have hI3 := rit_grown HI2.out hg3 (HO2.out.apartIter HI2.out.1)
      have hB4 := HB2.out.trans hB3
      have HI3 := Lib.hid hI3
      have HO3 := Lib.hid hO3
      have HB4 := Lib.hid hB4
      clear hI3 hB3 hg3 hO3 hB4 hnx
      go_wp2
      go_roundw
      case rel => exact ⟨pos + d, k + 1, HI3.out, by rw [List.take_add_one, HX.out]; exact HO3.out, HB4.out⟩
      case measure => rw [rit_pos HI3.out, rit_pos HI.out]; omega
    · have hnx := rit_over hI hlt
      have he := rit_end hI hlt
      have HE := Lib.hid he
      clear hI hO hB he
      go_wp2
      go_ret
      exact ⟨⟨_, k, rfl, by have := HOW.out; rwa [List.take_of_length_le HE.out] at this⟩, HBW.out⟩
set_option maxRecDepth 100000 in
set_option maxHeartbeats 1600000 in
theorem nFind_any {w : World} {s : ByteArray} (r : Int) (hs : s.size ≤ 17592186044000) :
    Calls Try.prog 13 #[.string s, .int .i32 r] w fun e w' => e = .returned (.int .i64 (findF (runesOf s) r)) ∧ Below w.heap.size w w' := by
  have HR := Lib.hid (rit_start w s)
  have HB := Lib.hid (show Below w.heap.size w (w.iter s 0) from (Below.refl _ _).alloc (Nat.le_refl _) _)
  have HS := Lib.hid hs
  clear hs
  go_enter Try.func13, Try.ntmps13
  go_wp2_with fail
  go_loopw [5] (fun v wr => ∃ (pos k : Nat), v = .int .i64 k ∧ RIt wr w.heap.size s pos k ∧ r ∉ (runesOf s).take k ∧ Below w.heap.size w wr) (fun _ wr => s.size - wr.iterPos w.heap.size)
  case atStart => exact ⟨0, 0, rfl, HR.out, by simp, HB.out⟩
  case round =>
    obtain ⟨pos, k, rfl, hI, hno, hB⟩ := hrel
    have HI := Lib.hid hI
    have HN := Lib.hid hno
    have HBW := Lib.hid hB
    clear hno
    by_cases hlt : pos < s.size
    · obtain ⟨w2, x, d, hnx, hI2, hd, hx, hf, hB2, hg⟩ := rit_next hI hlt hB (Nat.le_refl _)
      have HI2 := Lib.hid hI2
      have HB2 := Lib.hid hB2
      have HX := Lib.hid hx
      have hkb := rit_bd hI hlt
      have hs := HS.out
      clear hI hI2 hB hB2 hf hg hx
      by_cases hxr : x = r
      · subst hxr
        have HV := Lib.hid (findF_at HX.out HN.out)
        go_wp2
        go_ret
        exact ⟨by rw [HV.out]; rfl, HB2.out⟩
      · have dxr : (x == r) = false := by simpa using hxr
        have HXR := Lib.hid hxr
        clear hxr
        go_wp2
        go_roundw
        case rel => exact ⟨pos + d, k + 1, by go_num, HI2.out, by
          rw [List.take_add_one, HX.out]
          intro hm
          rcases List.mem_append.1 hm with hm | hm
          · exact HN.out hm
          · exact HXR.out (List.mem_singleton.1 hm).symm, HB2.out⟩
        case measure => rw [rit_pos HI2.out, rit_pos HI.out]; omega
    · have hnx := rit_over hI hlt
      have HV := Lib.hid (show findF (runesOf s) r = -1 from findF_none (by have h1 := HN.out; rwa [List.take_of_length_le (rit_end hI hlt)] at h1))
      clear hI hB
      go_wp2
      go_ret
      exact ⟨by rw [HV.out]; rfl, HBW.out⟩
open Classical in
noncomputable def goodR (x : Int) : Bool := decide (¬ badR x)
theorem goodR_yes {x : Int} (h : ¬ badR x) : goodR x = true := by unfold goodR; simpa using h
theorem goodR_no {x : Int} (h : badR x) : goodR x = false := by unfold goodR; simpa using h
set_option maxRecDepth 100000 in
set_option maxHeartbeats 1600000 in
theorem nMay_any {w : World} (x : Int) :
    Calls Try.prog 25 #[.int .i32 x] w fun e w' => e = .returned (.bool (goodR x)) ∧ w = w' := by
  by_cases b1 : x = 46
  · subst b1
    have HG := Lib.hid (goodR_no (x := 46) (by unfold badR; omega))
    go_enter Try.func25, Try.ntmps25
    go_wp2
    go_ret
    exact ⟨by rw [HG.out]; rfl, by trivial⟩
  by_cases b2 : x = 45
  · subst b2
    have HG := Lib.hid (goodR_no (x := 45) (by unfold badR; omega))
    go_enter Try.func25, Try.ntmps25
    go_wp2
    go_ret
    exact ⟨by rw [HG.out]; rfl, by trivial⟩
  by_cases b3 : x = 40
  · subst b3
    have HG := Lib.hid (goodR_no (x := 40) (by unfold badR; omega))
    go_enter Try.func25, Try.ntmps25
    go_wp2
    go_ret
    exact ⟨by rw [HG.out]; rfl, by trivial⟩
  by_cases b4 : x = 41
  · subst b4
    have HG := Lib.hid (goodR_no (x := 41) (by unfold badR; omega))
    go_enter Try.func25, Try.ntmps25
    go_wp2
    go_ret
    exact ⟨by rw [HG.out]; rfl, by trivial⟩
  by_cases b5 : x = 65533
  · subst b5
    have HG := Lib.hid (goodR_no (x := 65533) (by unfold badR; omega))
    go_enter Try.func25, Try.ntmps25
    go_wp2
    go_ret
    exact ⟨by rw [HG.out]; rfl, by trivial⟩
  have d1 : (x == 46) = false := by simpa using b1
  have d2 : (x == 45) = false := by simpa using b2
  have d3 : (x == 40) = false := by simpa using b3
  have d4 : (x == 41) = false := by simpa using b4
  have d5 : (x == 65533) = false := by simpa using b5
  have HG := Lib.hid (show decide ((33 : Int) ≤ x) = goodR x by
    by_cases b0 : x < 33
    · rw [goodR_no (by unfold badR; omega)]; simp; omega
    · rw [goodR_yes (by unfold badR; omega)]; simp; omega)
  clear b1 b2 b3 b4 b5
  go_enter Try.func25, Try.ntmps25
  go_wp2
  go_ret
  exact ⟨by rw [← HG.out]; rfl, by trivial⟩
set_option maxRecDepth 100000 in
set_option maxHeartbeats 3200000 in
theorem nRight_any {w : World} {s : ByteArray} (nn : Int) (hs : s.size ≤ 17592186044000) :
    Calls Try.prog 14 #[.string s, .int .i64 nn] w fun e w' => e = .returned (.bool (rightB (runesOf s) nn)) ∧ Below w.heap.size w w' := by
  have HR := Lib.hid (rit_start w s)
  have HB := Lib.hid (show Below w.heap.size w (w.iter s 0) from (Below.refl _ _).alloc (Nat.le_refl _) _)
  have HS := Lib.hid hs
  clear hs
  go_enter Try.func14, Try.ntmps14
  by_cases g0 : nn < 0
  · have dg0 : decide (nn < 0) = true := by simpa using g0
    have HX := Lib.hid (rightB_no (l := runesOf s) (n := nn) (fun h => by have := h.1; omega))
    go_wp2
    go_ret
    exact ⟨ret_bool HX.out.symm, Below.refl _ _⟩
  have dg0 : decide (nn < 0) = false := by simpa using g0
  by_cases g1 : 3 < nn
  · have dg1 : decide (3 < nn) = true := by simpa using g1
    have HX := Lib.hid (rightB_no (l := runesOf s) (n := nn) (fun h => by have := h.2.1; omega))
    go_wp2
    go_ret
    exact ⟨ret_bool HX.out.symm, Below.refl _ _⟩
  have dg1 : decide (3 < nn) = false := by simpa using g1
  go_wp2_with fail
  go_loopw [5] (fun v wr => ∃ (pos k : Nat), v = .int .i64 k ∧ (k : Int) ≤ nn ∧ k ≤ (runesOf s).length ∧ RIt wr w.heap.size s pos k ∧ (∀ j, j < k → RightAt (runesOf s) j) ∧ Below w.heap.size w wr) (fun _ wr => s.size - wr.iterPos w.heap.size)
  case atStart => exact ⟨0, 0, rfl, by omega, by omega, HR.out, fun j hj => by omega, HB.out⟩
  case round =>
    obtain ⟨pos, k, rfl, hk3, hkl9, hI, hall, hB⟩ := hrel
    have HI := Lib.hid hI
    have HALL := Lib.hid hall
    have HBW := Lib.hid hB
    clear hall
    by_cases hlt : pos < s.size
    · obtain ⟨w2, x, d, hnx, hI2, hd, hx, hf, hB2, hg⟩ := rit_next hI hlt hB (Nat.le_refl _)
      have HI2 := Lib.hid hI2
      have HB2 := Lib.hid hB2
      have HX := Lib.hid hx
      have hkb := rit_bd hI hlt
      have hs := HS.out
      have hkl : k < (runesOf s).length := (List.getElem?_eq_some_iff.1 hx).1
      have HBAD := Lib.hid (show ¬ (¬ badR x ∧ findF (runesOf s) x = k) → rightB (runesOf s) nn = false from fun hb => rightB_no fun h => hb (h.2.2.2 k x HX.out))
      clear hI hI2 hB hB2 hf hg hx
      by_cases gk : (k : Int) = nn
      · have dgk : ((k : Int) == nn) = true := by simpa using gk
        have HV := Lib.hid (rightB_no (l := runesOf s) (n := nn) (fun h => by have := h.2.2.1; omega))
        go_wp2
        go_ret
        exact ⟨ret_bool HV.out.symm, HB2.out⟩
      have dgk : ((k : Int) == nn) = false := by simpa using gk
      have CM := fun w : World => nMay_any (w := w) x
      by_cases bx : badR x
      · have HV := Lib.hid (HBAD.out (fun h => h.1 bx))
        simp only [goodR_no bx] at CM
        clear bx
        go_wp2_with fail
        refine (CM _).mono ?_; rintro e3 w3 ⟨rfl, rfl⟩
        clear CM
        go_wp2
        go_ret
        exact ⟨ret_bool HV.out.symm, HB2.out⟩
      have HNB := Lib.hid bx
      simp only [goodR_yes bx] at CM
      clear bx
      have CF := nFind_any (w := w2) (s := s) x HS.out
      obtain ⟨f, hf2⟩ : ∃ f, findF (runesOf s) x = f := ⟨_, rfl⟩
      rw [hf2] at CF
      have HF := Lib.hid hf2
      have hfb := findF_bd (runesOf s) x
      rw [hf2] at hfb
      clear hf2
      go_wp2_with fail
      refine (CM _).mono ?_; rintro e3 w3 ⟨rfl, rfl⟩
      clear CM
      go_wp2_with fail
      refine CF.mono ?_; rintro e4 w4 ⟨rfl, hb4⟩
      have HI4 := Lib.hid (rit_below HI2.out hb4 (rit_lt HI2.out))
      have HB4 := Lib.hid (then_ HB2.out hb4)
      clear CF hb4
      by_cases gf : f < (k : Int)
      · have dgf : decide (f < (k : Int)) = true := by simpa using gf
        have HV := Lib.hid (HBAD.out (fun h => by have := h.2; rw [HF.out] at this; omega))
        go_wp2
        go_ret
        exact ⟨ret_bool HV.out.symm, HB4.out⟩
      have dgf : decide (f < (k : Int)) = false := by simpa using gf
      have HFK := Lib.hid (show findF (runesOf s) x = k by
        have hm : findF (runesOf s) x ≤ k := by
          by_cases hin : x ∈ (runesOf s).take k
          · exact Int.le_of_lt (findF_in hin)
          · rw [findF_at HX.out hin]; exact Int.le_refl _
        rw [HF.out] at hm ⊢; omega)
      go_wp2
      go_roundw
      case rel => exact ⟨pos + d, k + 1, by go_num, by omega, by omega, HI4.out, fun j hj => by
        rcases Nat.lt_or_ge j k with h | h
        · exact HALL.out j h
        · obtain rfl : j = k := by omega
          intro y hy
          rw [HX.out] at hy
          injection hy with hy
          subst hy
          exact ⟨HNB.out, HFK.out⟩, HB4.out⟩
      case measure => rw [rit_pos HI4.out, rit_pos HI.out]; omega
    · have hnx := rit_over hI hlt
      have hle := rit_end hI hlt
      have HV := Lib.hid (show ((k : Int) == nn) = rightB (runesOf s) nn by
        by_cases gk : (k : Int) = nn
        · rw [rightB_yes ⟨by omega, by omega, by omega, fun j x hj => by
            rcases Nat.lt_or_ge j k with h | h
            · exact HALL.out j h x hj
            · have := (List.getElem?_eq_some_iff.1 hj).1; omega⟩]
          simpa using gk
        · rw [rightB_no (fun h => gk (by have := h.2.2.1; omega))]
          simpa using gk)
      clear hI hB hle
      go_wp2
      go_ret
      exact ⟨ret_bool HV.out, HBW.out⟩
theorem noteR_bad2 {nm l : List Int} {rank : Int} (g : noteL nm [] l = none) : noteR nm l rank = ([], false, 14) := by
  rcases Nat.lt_or_ge 16 l.length with h | h
  · exact noteR_long h
  · exact noteR_bad h g
set_option maxRecDepth 100000 in
set_option maxHeartbeats 3200000 in
theorem nNote_any {w : World} {s t : ByteArray} (rank : Int) (hs : s.size ≤ 17592186044000) (ht : t.size ≤ 17592186044000) :
    Calls Try.prog 11 #[.string s, .string t, .int .i64 rank] w fun e w' => (∃ v m, e = .returned (.tuple #[v, .bool (noteR (runesOf s) (runesOf t) rank).2.1, .int .i64 (noteR (runesOf s) (runesOf t) rank).2.2]) ∧ OwnS w' w.heap.size 3 v m (noteR (runesOf s) (runesOf t) rank).1) ∧ Below w.heap.size w w' := by
  have HR := Lib.hid (rit_start w t)
  have HB := Lib.hid (show Below w.heap.size w (w.iter t 0) from (Below.refl _ _).alloc (Nat.le_refl _) _)
  have HZ := Lib.hid (show w.heap.size + 1 ≤ (w.iter t 0).heap.size by simp [World.iter])
  have HS := Lib.hid hs
  have HT := Lib.hid ht
  obtain ⟨nm, hnm⟩ : ∃ l, runesOf s = l := ⟨_, rfl⟩
  have HNM := Lib.hid hnm
  have HNB := Lib.hid (show nm.length ≤ 17592186044000 by rw [← hnm]; exact Nat.le_trans (runesOf_length s) hs)
  rw [hnm]
  clear hs ht hnm
  go_enter Try.func11, Try.ntmps11
  go_wp2_with fail
  go_loopw [9, 10] (fun sv cv wr => ∃ (pos k m : Nat) (out : List Int), cv = .int .i64 k ∧ k ≤ 16 ∧ m ≤ k ∧ k ≤ (runesOf t).length ∧ RIt wr w.heap.size t pos k ∧ OwnS wr (w.heap.size + 1) 3 sv m out ∧ noteL nm [] (runesOf t) = noteL nm out ((runesOf t).drop k) ∧ w.heap.size + 1 ≤ wr.heap.size ∧ Below w.heap.size w wr) (fun _ _ wr => t.size - wr.iterPos w.heap.size)
  case atStart => exact ⟨0, 0, 0, [], rfl, by omega, by omega, by omega, HR.out, OwnS.nil_ _ _ _, rfl, HZ.out, HB.out⟩
  case round =>
    obtain ⟨pos, k, m, out, rfl, hk, hm, hkl9, hI, hO, hnl, hz, hB⟩ := hrel
    have HI := Lib.hid hI
    have HNL := Lib.hid hnl
    have HBW := Lib.hid hB
    have HZW := Lib.hid hz
    clear hnl hz
    by_cases hlt : pos < t.size
    · obtain ⟨w2, x, d, hnx, hI2, hd, hx, hf, hB2, hg⟩ := rit_next hI hlt hB (Nat.le_refl _)
      have hO2 := hO.grown hg (by omega)
      have HI2 := Lib.hid hI2
      have HO2 := Lib.hid hO2
      have HB2 := Lib.hid hB2
      have HX := Lib.hid hx
      have HZ2 := Lib.hid (show w.heap.size + 1 ≤ w2.heap.size by have := hg.size; have := HZW.out; omega)
      have hkl : k < (runesOf t).length := (List.getElem?_eq_some_iff.1 hx).1
      clear hI hI2 hO hO2 hB hB2 hf hg hx
      by_cases g0 : 16 < k + 1
      · have dg0 : decide (16 < k + 1) = true := by simpa using g0
        have HV := Lib.hid (noteR_long (nm := nm) (l := runesOf t) (rank := rank) (by omega))
        go_wp2
        go_ret3
        rw [HV.out]
        exact ⟨⟨_, 0, rfl, OwnS.nil_ _ _ _⟩, HB2.out⟩
      have dg0 : decide (16 < k + 1) = false := by simpa using g0
      by_cases b0 : x = 32
      · subst b0
        have HQ := Lib.hid (HNL.out.trans (noteL_blank (out := out) HX.out))
        go_wp2
        go_roundw
        case rel => exact ⟨pos + d, k + 1, m, out, by go_num, by omega, by omega, by omega, HI2.out, HO2.out, HQ.out, HZ2.out, HB2.out⟩
        case measure => rw [rit_pos HI2.out, rit_pos HI.out]; omega
      have db0 : (x == 32) = false := by simpa using b0
      have CF := nFind_any (w := w2) (s := s) x HS.out
      rw [HNM.out] at CF
      have HB0 := Lib.hid b0
      clear b0
      go_wp2_with fail
      refine CF.mono ?_; rintro e4 w4 ⟨rfl, hb4⟩
      have HI4 := Lib.hid (rit_below HI2.out hb4 (rit_lt HI2.out))
      have HO4 := Lib.hid (HO2.out.below hb4)
      have HZ4 := Lib.hid (show w.heap.size + 1 ≤ w4.heap.size from Nat.le_trans HZ2.out hb4.size)
      have HB4 := Lib.hid (then_ HB2.out hb4)
      have HOL := Lib.hid HO4.out.len
      clear CF hb4
      obtain ⟨f, hf2⟩ : ∃ f, findF nm x = f := ⟨_, rfl⟩
      have HF := Lib.hid hf2
      have hfb := findF_bd nm x
      rw [hf2] at hfb ⊢
      clear hf2
      have hnb := HNB.out
      by_cases b1 : x = 46
      · subst b1
        have HQ := Lib.hid (HNL.out.trans (noteL_point (out := out) HX.out))
        go_wp2_with (at_builtin; refine wpList_append_int rfl _ _ 24 3 rfl Try.underlying24 Try.infoInt9 (w.heap.size + 1) _ m out rfl HO4.out HZ4.out (-1) ⟨by omega, by omega⟩ _ rfl ?c1 ?_)
        case c1 => omega
        intro v' w' h1 h2 h3
        have HI5 := Lib.hid (rit_below HI4.out h2 (by omega))
        have G1 := Lib.hid h1
        have G2 := Lib.hid (HB4.out.trans (h2.mono (by omega)))
        have GZ := Lib.hid (show w.heap.size + 1 ≤ w'.heap.size from Nat.le_trans HZ4.out h2.size)
        clear h1 h2 h3
        go_wp2
        go_roundw
        case rel => exact ⟨pos + d, k + 1, m + 1, out ++ [-1], by go_num, by omega, by omega, by omega, HI5.out, G1.out, HQ.out, GZ.out, G2.out⟩
        case measure => rw [rit_pos HI5.out, rit_pos HI.out]; omega
      have db1 : (x == 46) = false := by simpa using b1
      have HB1 := Lib.hid b1
      clear b1
      by_cases b2 : f < 0
      · have db2 : decide (f < 0) = true := by simpa using b2
        have HV := Lib.hid (noteR_bad2 (rank := rank) (HNL.out.trans (noteL_none HX.out HB0.out HB1.out (by rw [HF.out]; exact b2))))
        go_wp2
        go_ret3
        rw [HV.out]
        exact ⟨⟨_, 0, rfl, OwnS.nil_ _ _ _⟩, HB4.out⟩
      have db2 : decide (f < 0) = false := by simpa using b2
      have HB2' := Lib.hid (show ¬ findF nm x < 0 by rw [HF.out]; exact b2)
      have CC := contains_any HO4.out f
      by_cases b3 : f ∈ out
      · have HV := Lib.hid (noteR_bad2 (rank := rank) (HNL.out.trans (noteL_twice HX.out HB0.out HB1.out HB2'.out (by rw [HF.out]; exact b3))))
        rw [show out.contains f = true from by simpa using b3] at CC
        clear b3
        go_wp2_with fail
        refine CC.mono ?_; rintro e5 w5 ⟨rfl, rfl⟩
        clear CC
        go_wp2
        go_ret3
        rw [HV.out]
        exact ⟨⟨_, 0, rfl, OwnS.nil_ _ _ _⟩, HB4.out⟩
      have HQ := Lib.hid (HNL.out.trans (noteL_name (out := out) HX.out HB0.out HB1.out HB2'.out (by rw [HF.out]; exact b3)))
      rw [show out.contains f = false from by simpa using b3] at CC
      clear b3
      go_wp2_with fail
      refine CC.mono ?_; rintro e5 w5 ⟨rfl, rfl⟩
      clear CC
      go_wp2_with (at_builtin; refine wpList_append_int rfl _ _ 24 3 rfl Try.underlying24 Try.infoInt9 (w.heap.size + 1) _ m out rfl HO4.out HZ4.out f ⟨by omega, by omega⟩ _ rfl ?c1 ?_)
      case c1 => omega
      intro v' w' h1 h2 h3
      have HI5 := Lib.hid (rit_below HI4.out h2 (by omega))
      have G1 := Lib.hid h1
      have G2 := Lib.hid (HB4.out.trans (h2.mono (by omega)))
      have GZ := Lib.hid (show w.heap.size + 1 ≤ w'.heap.size from Nat.le_trans HZ4.out h2.size)
      clear h1 h2 h3
      go_wp2
      go_roundw
      case rel => exact ⟨pos + d, k + 1, m + 1, out ++ [f], by go_num, by omega, by omega, by omega, HI5.out, G1.out, by rw [← HF.out]; exact HQ.out, GZ.out, G2.out⟩
      case measure => rw [rit_pos HI5.out, rit_pos HI.out]; omega
    · have hnx := rit_over hI hlt
      have hle := rit_end hI hlt
      have HN16 := Lib.hid (show (runesOf t).length ≤ 16 by omega)
      have HE := Lib.hid (HNL.out.trans (noteL_end (out := out) hle))
      have HOL := Lib.hid hO.len
      have HOW := Lib.hid (hO.mono (by omega : w.heap.size ≤ w.heap.size + 1))
      obtain ⟨Ao, co, hv, hco, _, _⟩ := hO.form
      subst hv
      clear hI hO hB hle
      by_cases m0 : m = 0
      · have dm0 : ((m : Int) == 0) = true := by simpa using m0
        have HOU : out = [] := List.eq_nil_of_length_eq_zero (by rw [HOL.out]; exact m0)
        have HV := Lib.hid (noteR_blank (rank := rank) HN16.out (by rw [HE.out, HOU]))
        clear HOU
        clear m0
        go_wp2
        go_ret3
        rw [HV.out]
        exact ⟨⟨_, 0, rfl, OwnS.nil_ _ _ _⟩, HBW.out⟩
      have dm0 : ((m : Int) == 0) = false := by simpa using m0
      have HNE := Lib.hid (show out ≠ [] from fun h => m0 (by have := HOL.out; rw [h] at this; simpa using this.symm))
      clear m0
      by_cases r0 : (m : Int) = rank
      · subst r0
        have dr0 : ((m : Int) != (m : Int)) = false := by simp
        have HV := Lib.hid (noteR_ok (rank := (m : Int)) HN16.out HE.out HNE.out (by rw [HOL.out]))
        go_wp2
        go_ret3
        rw [HV.out]
        exact ⟨⟨_, m, rfl, HOW.out⟩, HBW.out⟩
      · have dr0 : ((m : Int) != rank) = true := by simpa using r0
        have HV := Lib.hid (noteR_rank (rank := rank) HN16.out HE.out HNE.out (by rw [HOL.out]; exact r0))
        go_wp2
        go_ret3
        rw [HV.out]
        exact ⟨⟨_, 0, rfl, OwnS.nil_ _ _ _⟩, HBW.out⟩
set_option maxRecDepth 100000 in
set_option maxHeartbeats 3200000 in
theorem nText_any {w : World} {s : ByteArray} {A : Option Addr} {n c : Nat} {spec : List Int} (hs : s.size ≤ 17592186044000) (hA : Ints w A n spec) (hn : n ≤ 17592186044000) :
    Calls Try.prog 10 #[.string s, .slice A n c] w fun e w' => e = .returned (.string (textF (runesOf s) spec)) ∧ Below w.heap.size w w' := by
  have C1 := nRunes_any w s hs
  obtain ⟨nm, hnm⟩ : ∃ l, runesOf s = l := ⟨_, rfl⟩
  rw [hnm] at C1 ⊢
  clear hnm hs
  have HA := Lib.hid hA
  have HAL := Lib.hid hA.len
  have HAN := Lib.hid hn
  clear hA hn
  go_enter Try.func10, Try.ntmps10
  go_wp2_with fail
  refine C1.mono ?_; rintro e1 w1 ⟨⟨v, m, rfl, hO⟩, hb⟩
  obtain ⟨R, rc, rfl, hrc, hI, _⟩ := hO.form
  have HB := Lib.hid hb
  have H1 := Lib.hid hI.len
  have HI := Lib.hid hI
  have HS := Lib.hid (HA.out.below hb)
  have hle := hI.le
  have HF := Lib.hid (bld_fresh w1)
  have HBF := Lib.hid (show Below w1.heap.size w1 (w1.alloc (.cells #[.pointer none, .slice none 0 0] 42)) from (Below.refl _ _).alloc (Nat.le_refl _) _)
  clear C1 hO hb hI
  go_wp2_with fail
  go_loopw [13] (fun i wr => ∃ k : Nat, k ≤ n ∧ i = .int .i64 k ∧ Bld w1.heap.size (textF nm (spec.take k)).data.toList wr ∧ Below w1.heap.size w1 wr) (fun i _ => n - (intOf i).toNat)
  case atStart => exact ⟨0, Nat.zero_le _, rfl, HF.out, HBF.out⟩
  case round =>
    obtain ⟨k, hk, rfl, hbl, hB⟩ := hrel
    have HBL := Lib.hid hbl
    have HBW := Lib.hid hB
    have HSW := Lib.hid (HS.out.below hB)
    have HIW := Lib.hid (HI.out.below hB)
    have HZ := Lib.hid hB.size
    clear hbl hB
    by_cases hlt : k < n
    · obtain ⟨sa, x, rfl, _, hx, hcx, hfx⟩ := HSW.out.at_ hlt
      have HST := Lib.hid (textF_step (nm := nm) hx)
      have hsz := textF_size nm (spec.take k)
      rw [List.length_take] at hsz
      have hn9 := HAN.out
      have HLB := Lib.hid (show (textF nm (spec.take k)).data.toList.length + 4 ≤ 140737488355328 by
        have : (textF nm (spec.take k)).data.toList.length = (textF nm (spec.take k)).size := by simp
        omega)
      clear hx hsz
      by_cases b0 : x < 0 ∨ (m : Int) ≤ x
      · have HQ := Lib.hid (show textF nm (spec.take (k + 1)) = textF nm (spec.take k) ++ Utf8.encode 46 by rw [HST.out, signT_no (by have := H1.out; omega)]; rfl)
        have CW := bldRune_any w1.heap.size _ 46 (by omega) wr HBL.out HLB.out HZ.out
        rw [enc_add, ← HQ.out] at CW
        have HCW := Lib.hid CW
        clear CW
        by_cases b1 : x < 0
        · have db1 : decide ((0 : Int) ≤ x) = false := by simp; omega
          clear b0
          go_wp2_with fail
          refine HCW.out.mono ?_; rintro e3 w3 ⟨⟨n3, rfl⟩, hl3, hb3, _⟩
          have G1 := Lib.hid hl3
          have G2 := Lib.hid (HBW.out.trans hb3)
          clear hl3 hb3
          go_wp2
          go_roundw
          case rel => exact ⟨k + 1, by omega, by go_num, G1.out, G2.out⟩
          case measure => simp [intOf]; omega
        · have db1 : decide ((0 : Int) ≤ x) = true := by simp; omega
          have db2 : decide (x < (m : Int)) = false := by simp; omega
          obtain ⟨xn, rfl⟩ := Int.eq_ofNat_of_zero_le (by omega : 0 ≤ x)
          have db3 : decide (xn < m) = false := by simp; omega
          clear b0
          go_wp2_with fail
          refine HCW.out.mono ?_; rintro e3 w3 ⟨⟨n3, rfl⟩, hl3, hb3, _⟩
          have G1 := Lib.hid hl3
          have G2 := Lib.hid (HBW.out.trans hb3)
          clear hl3 hb3
          go_wp2
          go_roundw
          case rel => exact ⟨k + 1, by omega, by go_num, G1.out, G2.out⟩
          case measure => simp [intOf]; omega
      · obtain ⟨xn, rfl⟩ := Int.eq_ofNat_of_zero_le (by omega : 0 ≤ x)
        have hxm : xn < m := by omega
        have db1 : decide (xn < m) = true := by simpa using hxm
        clear b0
        obtain ⟨ra, y, rfl, _, hy, hcy, hfy⟩ := HIW.out.at_ hxm
        have HQ := Lib.hid (show textF nm (spec.take (k + 1)) = textF nm (spec.take k) ++ Utf8.encode y by rw [HST.out, signT_yes hy])
        have CW := bldRune_any w1.heap.size _ y hfy wr HBL.out HLB.out HZ.out
        rw [enc_add, ← HQ.out] at CW
        have HCW := Lib.hid CW
        clear CW hy
        go_wp2_with fail
        refine HCW.out.mono ?_; rintro e3 w3 ⟨⟨n3, rfl⟩, hl3, hb3, _⟩
        have G1 := Lib.hid hl3
        have G2 := Lib.hid (HBW.out.trans hb3)
        clear hl3 hb3
        go_wp2
        go_roundw
        case rel => exact ⟨k + 1, by omega, by go_num, G1.out, G2.out⟩
        case measure => simp [intOf]; omega
    · have hkn : k = n := by omega
      subst hkn
      have HE := Lib.hid (show spec.take k = spec from List.take_of_length_le (by have := HAL.out; omega))
      have CS := bldString_any w1.heap.size _ wr HBL.out HZ.out
      rw [HE.out, ba_list] at CS
      have HCS := Lib.hid CS
      clear CS
      go_wp2_with fail
      refine HCS.out.mono ?_; rintro e3 w3 ⟨rfl, hb3⟩
      have G2 := Lib.hid (HBW.out.trans hb3)
      clear hb3
      go_wp2
      go_ret
      exact ⟨rfl, then_ HB.out G2.out⟩
end Go.Proofs.Ytpceebpihojdcaa
