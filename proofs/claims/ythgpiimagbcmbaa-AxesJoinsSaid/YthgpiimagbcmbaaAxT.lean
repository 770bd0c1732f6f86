/- Contracts of package axes: taken, eachOnce. -/
import Derived.Test.YthgpiimagbcmbaaAxP
namespace Go.Proofs.Ythgpiimagbcmbaa
open Go.RowKit

theorem tFill_right {w : World} {A : Option Addr} {n c : Nat} {s : List Int} (x : Int) (h : Ints w A n s) (hx : Fits x) (hr : Sh.right s = true) :
    Calls Try.prog 34 #[.slice A n c, .int .i64 x] w fun e w' => (∃ v, e = .returned (.tuple #[v, .int .i64 0]) ∧ OTen w' w.heap.size v s (List.replicate (Sh.size s).toNat x)) ∧ Below w.heap.size w w' := by
  have := tFill_any (c := c) x h hx
  rwa [fillErr_true hr, fillS_true hr, fillD_true hr] at this
theorem tFill_wrong {w : World} {A : Option Addr} {n c : Nat} {s : List Int} (x : Int) (h : Ints w A n s) (hx : Fits x) (hr : Sh.right s = false) :
    Calls Try.prog 34 #[.slice A n c, .int .i64 x] w fun e w' => (∃ v, e = .returned (.tuple #[v, .int .i64 13]) ∧ OTen w' w.heap.size v [] []) ∧ Below w.heap.size w w' := by
  have := tFill_any (c := c) x h hx
  rwa [fillErr_false hr, fillS_false hr, fillD_false hr] at this

/-- Which of the first four numbers are in a list. -/
def seen4 (l : List Int) : List Value := (List.range 4).map fun q : Nat => Value.bool (decide ((q : Int) ∈ l))
theorem seen4_nil : seen4 [] = [.bool false, .bool false, .bool false, .bool false] := by simp [seen4, List.range_succ]
theorem seen4_at {l : List Int} {x : Nat} (h : x < 4) : (seen4 l)[x]? = some (.bool (decide ((x : Int) ∈ l))) := by
  rw [seen4, List.getElem?_map, List.getElem?_range h]; rfl
theorem seen4_set {l : List Int} {x : Nat} (h : x < 4) : (seen4 l).set x (.bool true) = seen4 (l ++ [(x : Int)]) := by
  apply List.ext_getElem?
  intro i
  rw [List.getElem?_set]
  by_cases hi : x = i
  · subst hi
    rw [if_pos rfl, if_pos (by simpa [seen4] using h), seen4_at h]; simp
  · rw [if_neg hi]
    rcases Nat.lt_or_ge i 4 with h' | h'
    · rw [seen4_at h', seen4_at h']
      have : (i : Int) ≠ x := by omega
      simp [this]
    · rw [List.getElem?_eq_none (by simpa [seen4] using h'), List.getElem?_eq_none (by simpa [seen4] using h')]
set_option maxRecDepth 100000 in
set_option maxHeartbeats 1600000 in
theorem eachOnce_any {w : World} {A : Option Addr} {n c : Nat} {s a : List Int} (h : Ints w A n a) (hs : s.length ≤ 4) :
    Calls Try.prog 29 #[.slice A n c, .int .i64 s.length] w fun e w' => Asks e (TuOk s a) ∧ Below w.heap.size w w' := by
  obtain ⟨r, hr⟩ : ∃ r, s.length = r := ⟨_, rfl⟩
  rw [hr]
  have hr4 : r ≤ 4 := by omega
  have HSR := Lib.hid hr
  have HLA := Lib.hid h.len
  have hle := h.le
  clear hr hs
  by_cases hnr : n = r
  · subst hnr
    have h1 := ((Sep.nil w).old h).allocBox w.heap.size 63 [.bool false, .bool false, .bool false, .bool false] rfl
    go_enter Try.func29, Try.ntmps29
    go_upto_region 4 with fail
    generalize w.alloc (.cells #[.bool false, .bool false, .bool false, .bool false] 63) = w1 at *
    have H := Lib.hid h1
    clear h1 h
    go_wp2
    go_loopw [14] (fun i wr => ∃ k : Nat, k ≤ n ∧ i = .int .i64 k ∧ (∀ j, j < k → TuAt s a j) ∧ Sep w wr [.box w.heap.size 63 (seen4 (a.take k)), .ints A n a]) (fun i _ => n - (intOf i).toNat)
    case atStart => exact ⟨0, Nat.zero_le _, rfl, fun j hj => by omega, by rw [List.take_zero, seen4_nil]; exact H.out⟩
    case round =>
      clear H
      obtain ⟨k, hk, rfl, hall, hS⟩ := hrel
      have HALL := Lib.hid hall; clear hall
      by_cases hlt : k < n
      · obtain ⟨ad, x, hA, hb, hx, hcx, hf⟩ := (hS.oldInts 1 rfl).at_ hlt
        subst hA
        have HE := Lib.hid hx; clear hx
        have H := Lib.hid hS; clear hS
        have HBAD := Lib.hid (show ¬ (0 ≤ x ∧ x < n ∧ x ∉ a.take k) → ¬ TuOk s a from fun hbad hc => hbad (by have := hc.2 k x HE.out; rwa [HSR.out] at this))
        obtain ⟨hf1, hf2⟩ := hf
        by_cases g1 : x < 0
        · have HN := Lib.hid (HBAD.out (by omega)); clear HBAD
          go_wp2
          go_ret
          exact ⟨asks_no HN.out, H.out.base⟩
        by_cases g2 : (n : Int) ≤ x
        · have HN := Lib.hid (HBAD.out (by omega)); clear HBAD
          go_wp2
          go_ret
          exact ⟨asks_no HN.out, H.out.base⟩
        obtain ⟨xn, rfl⟩ := Int.eq_ofNat_of_zero_le (by omega : 0 ≤ x)
        have hx4 : xn < 4 := by omega
        have e2 : decide (n ≤ xn) = false := by simp; omega
        have hci := H.out.cell 0 xn rfl (seen4_at (l := a.take k) hx4)
        have hfi := H.out.frozenBox 0 xn rfl
        by_cases g3 : (xn : Int) ∈ a.take k
        · rw [decide_eq_true g3] at hci
          have HN := Lib.hid (HBAD.out (fun hh => hh.2.2 g3)); clear HBAD g3
          go_wp2
          go_ret
          exact ⟨asks_no HN.out, H.out.base⟩
        · rw [decide_eq_false g3] at hci
          have HG := Lib.hid g3
          have hS2 := H.out.setBox 0 xn (.bool true) rfl
          rw [seen4_set hx4] at hS2
          have HS2 := Lib.hid hS2
          clear HBAD g3 hS2
          go_wp2
          go_roundw
          case rel => exact ⟨k + 1, by omega, by go_num, fun j hj => by
            rcases Nat.lt_or_ge j k with h' | h'
            · exact HALL.out j h'
            · obtain rfl : j = k := by omega
              intro y hy
              rw [HE.out] at hy; injection hy with hy; subst hy
              exact ⟨by omega, by rw [HSR.out]; omega, HG.out⟩, by rw [List.take_add_one, HE.out]; exact HS2.out⟩
          case measure => simp [intOf]; omega
      · have HR := Lib.hid (show TuOk s a from ⟨by have := HLA.out; have := HSR.out; omega, fun j x hx => HALL.out j (by have := (List.getElem?_eq_some_iff.1 hx).1; have := HLA.out; omega) x hx⟩)
        have H := Lib.hid hS; clear hS
        go_wp2
        go_ret
        exact ⟨asks_yes HR.out, H.out.base⟩
  · have HN := Lib.hid (show ¬ TuOk s a from fun hc => by have := hc.1; have := HLA.out; have := HSR.out; omega)
    have hb : ((n : Int) != (r : Int)) = true := by simp; omega
    go_enter Try.func29, Try.ntmps29
    go_wp2
    go_ret
    exact ⟨asks_no HN.out, Below.refl _ _⟩

set_option maxRecDepth 100000 in
set_option maxHeartbeats 6400000 in
theorem taken_any {w : World} {v : Value} {Az Af At : Option Addr} {nz cz cf ct : Nat} {s d z f st : List Int} (h : Ten w v s d) (hZ : Ints w Az nz z) (hF : Ints w Af nz f) (hT : Ints w At nz st) (hr : Sh.right z = true) (hf : Near f) (hst : Steps st) (hl : Leads z f st d.length) :
    Calls Try.prog 31 #[v, .slice Az nz cz, .slice Af nz cf, .slice At nz ct] w fun e w' => (∃ u, e = .returned (.tuple #[u, .int .i64 0]) ∧ OTen w' w.heap.size u z (takeD d z f st)) ∧ Below w.heap.size w w' := by
  obtain ⟨A, n, c, B, m, e, rfl, hnc, hme, hI, hJ⟩ := h
  have h1 := ((((((((Sep.nil w).old hT).old hF).old hZ).old hJ).old hI).allocBox w.heap.size 25 [.slice A n c, .slice B m e] rfl).allocBox (w.heap.size + 1) 25 [.slice none 0 0, .slice none 0 0] (by simp))
  have hdl := hJ.len
  rw [hdl] at hl
  have HLD := Lib.hid hl
  have HDL := Lib.hid hdl
  have HLZ := Lib.hid hZ.len
  have hn4 : nz ≤ 4 := by have := (Sh.right_iff.1 hr).1; have := hZ.len; omega
  have HR := Lib.hid hr
  have HNF := Lib.hid hf
  have HST := Lib.hid hst
  have hmle := hJ.le
  clear hr hf hst hI hJ hZ hF hT hl hdl
  go_enter Try.func31, Try.ntmps31
  go_upto_region 1 with fail
  generalize (w.alloc (.cells #[.slice A n c, .slice B m e] 25)).alloc (.cells #[.slice none 0 0, .slice none 0 0] 25) = W at *
  have H := Lib.hid h1
  clear h1
  obtain ⟨N, hN⟩ := Int.eq_ofNat_of_zero_le (Sh.size_bd z).1
  have hN4 : N ≤ 4096 := by have := (Sh.size_bd z).2; omega
  have HN := Lib.hid hN
  clear hN
  go_wp2_with fail
  refine (tFill_right 0 (H.out.oldInts 4 rfl) ⟨by omega, by omega⟩ HR.out).mono ?_; rintro e4 w4 ⟨⟨u, rfl, hu⟩, hb4⟩
  rw [HN.out, Int.toNat_natCast] at hu
  obtain ⟨S1, ns, sc, D1, N1, dc, rfl, hs1, hd1, hsc, hdc, hNle, h5⟩ := H.out.addTen hb4 hu
  rw [List.length_replicate] at hd1
  subst hd1
  have h6 := h5.allocBox w4.heap.size 25 [.slice S1 ns sc, .slice D1 N dc] rfl
  clear hu hb4 h5 hs1
  go_upto_region 4 with fail
  generalize w4.alloc (.cells #[.slice S1 ns sc, .slice D1 N dc] 25) = w5 at *
  generalize w4.heap.size = gt at *
  replace H := Lib.hid h6
  clear h6
  go_wp2_with fail
  refine (path_any (H.out.oldInts 7 rfl) (H.out.oldInts 8 rfl) (H.out.oldInts 9 rfl) HR.out HNF.out HST.out).mono ?_; rintro e7 w7 ⟨⟨v7, n7, rfl, hO⟩, hb7⟩
  obtain ⟨A7, c7, rfl, hc7, _, _⟩ := hO.form
  have hn7 : n7 = N := by have := hO.len; rw [pathL, gen_length] at this; have := HN.out; omega
  subst hn7
  replace H := Lib.hid (H.out.addOwn hb7 hO)
  clear hO hb7 hc7
  obtain ⟨tgt, htg⟩ : ∃ t, takeD d z f st = t := ⟨_, rfl⟩
  have HTL := Lib.hid (show tgt.length = n7 by rw [← htg, takeD, gen_length]; have := HN.out; omega)
  have HAT := Lib.hid (show ∀ i : Nat, i < n7 → tgt[i]? = some (d.getD (pathP z f st i).toNat 0) from fun i hi => by rw [← htg, takeD]; exact gen_at (by have := HN.out; omega))
  have HQ := Lib.hid htg
  clear htg
  go_wp2_with fail
  go_loopw [28] (fun kv wr => ∃ i : Nat, kv = .int .i64 i ∧ i ≤ n7 ∧ Sep w wr [.own 3 (.slice A7 n7 c7) n7 (pathL z f st), .box gt 25 [.slice S1 ns sc, .slice D1 n7 dc], .own 3 (.slice S1 ns sc) ns z, .own 2 (.slice D1 n7 dc) n7 (mix tgt (List.replicate n7 0) i), .box (w.heap.size + 1) 25 [.slice none 0 0, .slice none 0 0], .box w.heap.size 25 [.slice A n c, .slice B m e], .ints A n s, .ints B m d, .ints Az nz z, .ints Af nz f, .ints At nz st]) (fun kv _ => n7 - (intOf kv).toNat)
  case atStart => exact ⟨0, rfl, by omega, by rw [mix_zero]; exact H.out⟩
  case round =>
    clear H
    obtain ⟨i, rfl, hi, hS⟩ := hrel
    by_cases hli : i < n7
    · have hiz : (i : Int) < Sh.size z := by have := HN.out; omega
      obtain ⟨hq0, hq1⟩ := HLD.out i hiz
      obtain ⟨q, hq⟩ := Int.eq_ofNat_of_zero_le hq0
      rw [hq] at hq1
      have hqm : q < m := by omega
      obtain ⟨la, x, hlA, _, hx, hcx, hfx⟩ := ((hS.ownInts 0 rfl).2.2).at_ (k := i) hli
      subst hlA
      have hxq : x = q := by rw [pathL, gen_at (by omega)] at hx; injection hx with hx; rw [← hx, hq]
      subst hxq
      obtain ⟨da, y, hdA, _, hy, hcy, hfy⟩ := (hS.oldInts 7 rfl).at_ (k := q) hqm
      subst hdA
      have HTX := Lib.hid (show tgt[i]? = some y by rw [HAT.out i hli, hq, Int.toNat_natCast, List.getD_eq_getElem?_getD, hy]; rfl)
      obtain ⟨gb, cb, hv, hO⟩ := (hS.ownS 3 rfl).own (by omega)
      injection hv with hv1 _ hv3
      subst hv1
      subst hv3
      have hcd := hO.cell (mix_rep (c := 0) HTL.out hli)
      have hfd := hO.frozen i
      have hS2 := hS.store 3 i hfy rfl
      rw [mix_step HTL.out HTX.out] at hS2
      have HS2 := Lib.hid hS2
      have b1 := hS.cell 1 1 rfl rfl
      have t1 := hS.cell 5 1 rfl rfl
      clear hS hS2 hO hx hy hq hq0 hfx hfy hiz
      go_upto_region 7 with fail
      go_still_tail 9, (by kernel_rfl)
      change wpList _ _ _ _ _ wr.drew
      have hcd1 : wr.drew.cell? ⟨gb, i, none⟩ = some (.int .i64 0) := hcd
      have hfd1 : wr.drew.frozen? ⟨gb, i, none⟩ = false := hfd
      go_wp2
      go_roundw
      case rel => exact ⟨i + 1, by go_num, by omega, HS2.out.drew⟩
      case measure => simp [intOf]; omega
    · have hin : n7 = i := by omega
      subst hin
      rw [mix_end HTL.out] at hS
      have H := Lib.hid hS
      clear hS
      rw [← HQ.out] at H
      have o0 := H.out.cell 1 0 rfl rfl
      have o1 := H.out.cell 1 1 rfl rfl
      have r0 := H.out.cell 4 0 rfl rfl
      have r1 := H.out.cell 4 1 rfl rfl
      have fr0 := H.out.frozenBox 4 0 rfl
      have fr1 := H.out.frozenBox 4 1 rfl
      go_wp2
      exact sep_ret2 ((H.out.setBox 4 0 (.slice S1 ns sc) rfl).setBox 4 1 (.slice D1 n7 dc) rfl) 4 rfl (z := .int .i64 0) Try.results31 rfl rfl rfl ⟨⟨_, rfl, _, _, ns, n7, rfl, ((H.out.setBox 4 0 (.slice S1 ns sc) rfl).setBox 4 1 (.slice D1 n7 dc) rfl).ownS 2 rfl, ((H.out.setBox 4 0 (.slice S1 ns sc) rfl).setBox 4 1 (.slice D1 n7 dc) rfl).ownS 3 rfl⟩, ((H.out.setBox 4 0 (.slice S1 ns sc) rfl).setBox 4 1 (.slice D1 n7 dc) rfl).base⟩
end Go.Proofs.Ythgpiimagbcmbaa
