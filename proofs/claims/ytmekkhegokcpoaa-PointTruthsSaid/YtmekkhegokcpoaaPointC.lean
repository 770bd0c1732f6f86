/- Contracts of package point. -/
import Derived.Test.YtmekkhegokcpoaaRef4B
namespace Go.Proofs.Ytmekkhegokcpoaa
open Go.RowKit

theorem pTruth_any (b : Bool) (w : World) :
    Calls Try.prog 19 #[.bool b] w fun e w' => e = .returned (.int .i64 (if b = true then 1 else 0)) ∧ w = w' := by
  cases b <;>
  · go_enter Try.func19, Try.ntmps19
    go_wp2
    go_ret
    exact ⟨rfl, rfl⟩
set_option maxHeartbeats 1600000 in
theorem pStep_any (op a b : Int) (w : World) :
    Calls Try.prog 8 #[.int .i64 op, .int .i64 a, .int .i64 b] w fun e w' => e = .returned (.int .i64 (stepF op a b)) ∧ w = w' := by
  by_cases h4 : op = 4
  · subst h4
    · go_enter Try.func8, Try.ntmps8
      go_wp2
      go_ret
      exact ⟨by simp [stepF], rfl⟩
  by_cases h5 : op = 5
  · subst h5
    clear h4
    by_cases hc : a = 0
    · go_enter Try.func8, Try.ntmps8
      go_wp2
      go_ret
      exact ⟨by simp [stepF, hc], rfl⟩
    · go_enter Try.func8, Try.ntmps8
      go_wp2
      go_ret
      exact ⟨by simp [stepF, hc], rfl⟩
  by_cases h6 : op = 6
  · subst h6
    clear h4 h5
    · go_enter Try.func8, Try.ntmps8
      go_wp2
      go_ret
      exact ⟨by simp [stepF], rfl⟩
  by_cases h7 : op = 7
  · subst h7
    clear h4 h5 h6
    · go_enter Try.func8, Try.ntmps8
      go_wp2
      go_ret
      exact ⟨by simp [stepF], rfl⟩
  by_cases h8 : op = 8
  · subst h8
    clear h4 h5 h6 h7
    · go_enter Try.func8, Try.ntmps8
      go_wp2
      go_ret
      exact ⟨by simp [stepF], rfl⟩
  by_cases h9 : op = 9
  · subst h9
    clear h4 h5 h6 h7 h8
    by_cases hc : b < a
    · go_enter Try.func8, Try.ntmps8
      go_wp2
      go_ret
      exact ⟨by simp [stepF, hc], rfl⟩
    · go_enter Try.func8, Try.ntmps8
      go_wp2
      go_ret
      exact ⟨by simp [stepF]; omega, rfl⟩
  by_cases h10 : op = 10
  · subst h10
    clear h4 h5 h6 h7 h8 h9
    by_cases hc : b > a
    · go_enter Try.func8, Try.ntmps8
      go_wp2
      go_ret
      exact ⟨by simp [stepF, hc], rfl⟩
    · go_enter Try.func8, Try.ntmps8
      go_wp2
      go_ret
      exact ⟨by simp [stepF]; omega, rfl⟩
  by_cases h11 : op = 11
  · subst h11
    clear h4 h5 h6 h7 h8 h9 h10
    by_cases hc : a < b
    · go_enter Try.func8, Try.ntmps8
      go_wp2
      go_ret
      exact ⟨by simp [stepF, hc], rfl⟩
    · go_enter Try.func8, Try.ntmps8
      go_wp2
      go_ret
      exact ⟨by simp [stepF, hc], rfl⟩
  have HX := Lib.hid (show stepF op a b = 0 by simp [stepF, h4, h5, h6, h7, h8, h9, h10, h11])
  go_enter Try.func8, Try.ntmps8
  go_wp2
  go_ret
  exact ⟨by rw [HX.out]; rfl, rfl⟩
/-- Whether two tensors are right and of one shape. -/
def fitB (s d t k : List Int) : Bool := tenRight s d && (tenRight t k && s == t)
theorem fit_comm {s t : List Int} : (s == t) = (t == s) := by
  by_cases h : s = t
  · subst h; rfl
  · rw [beq_eq_false_iff_ne.2 h, beq_eq_false_iff_ne.2 (Ne.symm h)]
theorem fitB_two {s d t k : List Int} : fitB s d t k = (tenRight s d && (tenRight t k && t == s)) := by rw [fitB, fit_comm]

set_option maxHeartbeats 1600000 in
theorem pFit_any {w : World} {v v' : Value} {s d t k : List Int} (h : Ten w v s d) (h' : Ten w v' t k) :
    Calls Try.prog 26 #[v, v'] w fun e w' => e = .returned (.bool (fitB s d t k)) ∧ Below w.heap.size w w' := by
  obtain ⟨A, n, c, B, m, e, rfl, hnc, hme, hI, hJ⟩ := h
  obtain ⟨A', n', c', B', m', e', rfl, hnc', hme', hI', hJ'⟩ := h'
  have hz := ((Below.refl w.heap.size w).alloc (Nat.le_refl _) (.cells #[.slice A n c, .slice B m e] 27)).alloc (by simp) (.cells #[.slice A' n' c', .slice B' m' e'] 27)
  have ha := heap_alloc2_old w (.cells #[.slice A n c, .slice B m e] 27) (.cells #[.slice A' n' c', .slice B' m' e'] 27)
  have hr := heap_alloc2_new w (.cells #[.slice A n c, .slice B m e] 27) (.cells #[.slice A' n' c', .slice B' m' e'] 27)
  go_enter Try.func26, Try.ntmps26
  go_upto_region 1 with fail
  generalize (w.alloc (.cells #[.slice A n c, .slice B m e] 27)).alloc (.cells #[.slice A' n' c', .slice B' m' e'] 27) = W at *
  have a0 := cell0_of ha
  have a1 := cell1_of ha
  have b0 := cell0_of hr
  have b1 := cell1_of hr
  have HT := Lib.hid (ten_mk (hI.below hz) hnc (hJ.below hz) hme)
  have HT' := Lib.hid (ten_mk (hI'.below hz) hnc' (hJ'.below hz) hme')
  have HZ := Lib.hid hz
  have HI := Lib.hid (hI.below hz)
  have HI' := Lib.hid (hI'.below hz)
  clear hI hJ hI' hJ' hz ha hr
  have C1 := tRight_any HT.out
  go_wp2_with fail
  cases h1 : tenRight s d with
  | false =>
    rw [h1] at C1
    refine C1.mono ?_; rintro e2 w2 ⟨rfl, hb2⟩
    have HX := Lib.hid (show fitB s d t k = false by simp [fitB, h1])
    have HB := Lib.hid (then_ HZ.out hb2)
    clear hb2 h1 C1 a0 a1 b0 b1
    go_wp2
    go_ret
    exact ⟨ret_bool HX.out.symm, HB.out⟩
  | true =>
    rw [h1] at C1
    refine C1.mono ?_; rintro e2 w2 ⟨rfl, hb2⟩
    have HB := Lib.hid (then_ HZ.out hb2)
    have a0 := box_keep hb2 a0
    have a1 := box_keep hb2 a1
    have b0 := box_keep hb2 b0
    have b1 := box_keep hb2 b1
    have HI2 := Lib.hid (HI.out.below hb2)
    have HI2' := Lib.hid (HI'.out.below hb2)
    have C2 := tRight_any (HT'.out.below hb2)
    have H1 := Lib.hid h1
    clear hb2 h1 C1
    go_wp2_with fail
    cases h2 : tenRight t k with
    | false =>
      rw [h2] at C2
      refine C2.mono ?_; rintro e3 w3 ⟨rfl, hb3⟩
      have HX := Lib.hid (show fitB s d t k = false by simp [fitB, h2])
      have HB3 := Lib.hid (then_ HB.out hb3)
      clear hb3 h2 C2 a0 a1 b0 b1
      go_wp2
      go_ret
      exact ⟨ret_bool HX.out.symm, HB3.out⟩
    | true =>
      rw [h2] at C2
      refine C2.mono ?_; rintro e3 w3 ⟨rfl, hb3⟩
      have HX := Lib.hid (show fitB s d t k = (s == t) by simp [fitB, h2, H1.out])
      have HB3 := Lib.hid (then_ HB.out hb3)
      have a0 := box_keep hb3 a0
      have a1 := box_keep hb3 a1
      have b0 := box_keep hb3 b0
      have b1 := box_keep hb3 b1
      have C3 := same_any (c := c) (d := c') (HI2.out.below hb3) (HI2'.out.below hb3)
      clear hb3 h2 C2
      go_wp2_with fail
      refine C3.mono ?_; rintro e4 w4 ⟨rfl, rfl⟩
      go_wp2
      go_ret
      exact ⟨ret_bool HX.out.symm, HB3.out⟩
set_option maxHeartbeats 3200000 in
theorem pOne_any {w : World} {v : Value} {s d : List Int} (op : Int) (h : Ten w v s d) :
    Calls Try.prog 15 #[.int .i64 op, v] w fun e w' => (∃ u, e = .returned (.tuple #[u, .int .i64 (oneR op s d).1]) ∧ OTen w' w.heap.size u (oneR op s d).2.1 (oneR op s d).2.2) ∧ Below w.heap.size w w' := by
  obtain ⟨A, n, c, B, m, e, rfl, hnc, hme, hI, hJ⟩ := h
  have hz := ((Below.refl w.heap.size w).alloc (Nat.le_refl _) (.cells #[.slice A n c, .slice B m e] 27)).alloc (by simp) (.cells #[.slice none 0 0, .slice none 0 0] 27)
  have ha := heap_alloc2_old w (.cells #[.slice A n c, .slice B m e] 27) (.cells #[.slice none 0 0, .slice none 0 0] 27)
  have hr := heap_alloc2_new w (.cells #[.slice A n c, .slice B m e] 27) (.cells #[.slice none 0 0, .slice none 0 0] 27)
  have hzs : ((w.alloc (.cells #[.slice A n c, .slice B m e] 27)).alloc (.cells #[.slice none 0 0, .slice none 0 0] 27)).heap.size = w.heap.size + 1 + 1 := by simp
  go_enter Try.func15, Try.ntmps15
  go_upto_region 1 with fail
  generalize (w.alloc (.cells #[.slice A n c, .slice B m e] 27)).alloc (.cells #[.slice none 0 0, .slice none 0 0] 27) = W at *
  have HT := Lib.hid (ten_mk (hI.below hz) hnc (hJ.below hz) hme)
  have HZ := Lib.hid hz
  have HZS := Lib.hid hzs
  have HA := Lib.hid ha
  have HR := Lib.hid hr
  clear hI hJ hz hzs ha hr
  have a0 := cell0_of HA.out
  have a1 := cell1_of HA.out
  have d0 := cell0_of HR.out
  have d1 := cell1_of HR.out
  have f0 := frozen_of_row _ _ 0 _ _ HR.out
  have f1 := frozen_of_row _ _ 1 _ _ HR.out
  by_cases hop : op ≠ 4 ∧ op ≠ 5
  · have HX := Lib.hid (oneR_arg (s := s) (d := d) hop)
    have hg4 : (op != 4) = true := by simp [hop.1]
    have hg5 : (op != 5) = true := by simp [hop.2]
    clear a0 a1 hop
    go_wp2
    rw [HX.out]
    refine ret_ten2 (w.heap.size + 1) _ _ (.int .i64 1) Try.results15 rfl rfl (block_set2 HR.out _ _) rfl ?_
    exact ⟨⟨_, rfl, _, _, 0, 0, rfl, OwnS.nil_ _ _ _, OwnS.nil_ _ _ _⟩, (HZ.out.setCell (by show w.heap.size ≤ w.heap.size + 1; omega) _).setCell (by show w.heap.size ≤ w.heap.size + 1; omega) _⟩
  · have hop' : op = 4 ∨ op = 5 := by omega
    clear hop
    obtain ⟨tgt, htg⟩ : ∃ t, t = d.map fun x => stepF op x 0 := ⟨_, rfl⟩
    have HQ1 := Lib.hid (fun hr : tenRight s d = false => oneR_shape hop' hr)
    have HQ2 := Lib.hid (fun hr : tenRight s d = true => (oneR_ok hop' hr).trans (show _ = ((0, s, tgt) : Int × List Int × List Int) by rw [htg]))
    have HAT := Lib.hid (show ∀ j x, d[j]? = some x → tgt[j]? = some (stepF op x 0) from fun j x hx => by rw [htg]; exact map_at hx)
    have HTL := Lib.hid (show tgt.length = d.length by rw [htg]; simp)
    clear htg
    have hgs : ((op != 4) = false) ∨ ((op != 4) = true ∧ (op != 5) = false) := by rcases hop' with rfl | rfl <;> simp
    clear hop'
    rcases hgs with hg4 | ⟨hg4, hg5⟩
    all_goals (
      have C1 := tRight_any HT.out
      go_wp2_with fail
      cases hr : tenRight s d with
      | false =>
        rw [hr] at C1
        refine C1.mono ?_; rintro e2 w2 ⟨rfl, hb2⟩
        have HB := Lib.hid hb2
        have HQ := Lib.hid (HQ1.out hr)
        have hr2 := (HB.out.block (w.heap.size + 1) (by have := HZS.out; omega)).trans HR.out
        have d0 := cell0_of hr2
        have d1 := cell1_of hr2
        have f0 := frozen_of_row _ _ 0 _ _ hr2
        have f1 := frozen_of_row _ _ 1 _ _ hr2
        have HR2 := Lib.hid hr2
        clear hb2 hr hr2 C1
        go_wp2
        rw [HQ.out]
        refine ret_ten2 (w.heap.size + 1) _ _ (.int .i64 13) Try.results15 rfl rfl (block_set2 HR2.out _ _) rfl ?_
        exact ⟨⟨_, rfl, _, _, 0, 0, rfl, OwnS.nil_ _ _ _, OwnS.nil_ _ _ _⟩, ((then_ HZ.out HB.out).setCell (by show w.heap.size ≤ w.heap.size + 1; omega) _).setCell (by show w.heap.size ≤ w.heap.size + 1; omega) _⟩
      | true =>
        rw [hr] at C1
        refine C1.mono ?_; rintro e2 w2 ⟨rfl, hb2⟩
        have HB := Lib.hid hb2
        have HRT := Lib.hid hr
        have a0 := box_keep HB.out a0
        have a1 := box_keep HB.out a1
        have HT2 := Lib.hid (HT.out.below HB.out)
        have HFT := Lib.hid (ten_ints HT2.out).2.fit
        clear hb2 hr C1
        go_wp2_with fail
        refine (tCopy_own HT2.out (by have := (right_len HRT.out).1; omega) (by have := (right_len HRT.out).2; omega)).mono ?_; rintro e3 w3 ⟨⟨u, ga, gb, ns, N, rfl, rfl, hvs, hvd⟩, hb3⟩
        have hDN : d.length = N := hvd.len
        have hN : tgt.length = N := by have := HTL.out; omega
        have hNle : N ≤ 9223372036854775807 := hvd.2.2
        have HDN := Lib.hid hDN
        have hvs : OwnS w3 w2.heap.size 3 (.slice (some ⟨ga, 0, none⟩) ns ns) ns s := hvs
        have hvd : OwnS w3 w2.heap.size 2 (.slice (some ⟨gb, 0, none⟩) N N) N d := hvd
        have hL := laying_new (then_ HB.out hb3) (hvs.mono HB.out.size) (hvd.mono HB.out.size)
        have HN := Lib.hid hN
        clear hb3 hvs hvd hN hDN a0 a1
        go_upto_region 6 with fail
        generalize w3.alloc (.cells #[.slice (some ⟨ga, 0, none⟩) ns ns, .slice (some ⟨gb, 0, none⟩) N N] 27) = w4 at *
        generalize w3.heap.size = gt at *
        have t1 := cell1_of hL.2.1
        have HL := Lib.hid hL
        clear hL
        go_wp2_with fail
        clear t1
        go_loopw [25] (fun kv wr => ∃ j : Nat, kv = .int .i64 j ∧ j ≤ N ∧ Laying W wr gt (some ⟨ga, 0, none⟩) (some ⟨gb, 0, none⟩) ns ns N N s (mix tgt d j)) (fun kv _ => N - (intOf kv).toNat)
        case atStart => exact ⟨0, rfl, by omega, by rw [mix_zero]; exact HL.out⟩
        case round =>
          obtain ⟨j, rfl, hj, hL⟩ := hrel
          have hLr := hL
          have HLr := Lib.hid hL
          have t0 := cell0_of hL.2.1
          have t1 := cell1_of hL.2.1
          have hb := hL.2.2.2.2
          have hz := (hb.block (w.heap.size + 1) (by have := HZS.out; omega)).trans HR.out
          have HB4 := Lib.hid hb
          have HT4 := Lib.hid (HT.out.below hb)
          have a1 := cell1_of ((hb.block w.heap.size (by have := HZS.out; omega)).trans HA.out)
          have hgt := hL.1
          by_cases hlt : j < N
          · have hO : Own wr W.heap.size 2 gb N N _ := hL.2.2.2.1
            obtain ⟨x, hx⟩ : ∃ x, d[j]? = some x := ⟨_, List.getElem?_eq_getElem (by have := HDN.out; omega)⟩
            have hfx : Fits x := HFT.out x (List.mem_of_getElem? hx)
            have HS := Lib.hid ((HLr.out.drew 1).store j (stepF_fits op hfx (show Fits 0 from ⟨by omega, by omega⟩)))
            have HX := Lib.hid hx
            have hcs := hO.cell (j := j) (x := x) (by rw [mix_at (by have := HN.out; have := HDN.out; omega) (by have := HDN.out; omega)]; exact hx)
            have hfs := hO.frozen j
            obtain ⟨hn1, hn2⟩ := hLr.ne
            have k0 := keep_set (q := ⟨gb, j, none⟩) (u := .int .i64 (stepF op x 0)) t1 hn1
            clear hL hb hz hO hx hfx t0 a1
            go_wp2_with fail
            go_region_held3 (fun w' => w'.cell? ⟨gt, 1, none⟩ = some (.slice (some ⟨gb, 0, none⟩) N N)) (go_keep)
              (first | (go_at_call 8; refine (pStep_any _ _ _ _).mono ?_; rintro e5 w5 ⟨rfl, rfl⟩))
            clear k0 t1 hcs hfs
            go_wp2
            go_roundw
            case rel => exact ⟨j + 1, by go_num, by omega, by rw [← mix_set (by have := HN.out; have := HDN.out; omega) (HAT.out j x HX.out)]; exact HS.out⟩
            case measure => simp [intOf]; omega
          · obtain rfl : j = N := by omega
            rw [show mix tgt d j = tgt by have := mix_full (t := tgt) (o := d) (by have := HN.out; have := HDN.out; omega); rwa [HDN.out] at this] at HLr
            have d0 := cell0_of hz
            have d1 := cell1_of hz
            have f0 := frozen_of_row _ _ 0 _ _ hz
            have f1 := frozen_of_row _ _ 1 _ _ hz
            have HZr := Lib.hid hz
            have HQ := Lib.hid (HQ2.out HRT.out)
            clear hL hb hz a1
            go_wp2
            rw [HQ.out]
            refine ret_ten2 (w.heap.size + 1) _ _ (.int .i64 0) Try.results15 rfl rfl (block_set2 HZr.out _ _) rfl ?_
            have hgr := grown_trans (grown_setCell wr (w.heap.size + 1) 0 (.slice (some ⟨ga, 0, none⟩) ns ns)) (grown_setCell _ (w.heap.size + 1) 1 (.slice (some ⟨gb, 0, none⟩) j j))
            exact ⟨⟨_, rfl, _, _, ns, j, rfl, (HLr.out.2.2.1.grown hgr (by have := HZS.out; omega)).mono (by have := HZS.out; omega), (HLr.out.2.2.2.1.grown hgr (by have := HZS.out; omega)).mono (by have := HZS.out; omega)⟩, ((then_ HZ.out HB4.out).setCell (by show w.heap.size ≤ w.heap.size + 1; omega) _).setCell (by show w.heap.size ≤ w.heap.size + 1; omega) _⟩
      )
set_option maxHeartbeats 3200000 in
theorem pTwo_any {w : World} {v v' : Value} {s d t k : List Int} (op : Int) (h : Ten w v s d) (h' : Ten w v' t k) :
    Calls Try.prog 14 #[.int .i64 op, v, v'] w fun e w' => (∃ u, e = .returned (.tuple #[u, .int .i64 (twoR op s d t k).1]) ∧ OTen w' w.heap.size u (twoR op s d t k).2.1 (twoR op s d t k).2.2) ∧ Below w.heap.size w w' := by
  obtain ⟨A, n, c, B, m, e, rfl, hnc, hme, hI, hJ⟩ := h
  obtain ⟨A', n', c', B', m', e', rfl, hnc', hme', hI', hJ'⟩ := h'
  have hz := (((Below.refl w.heap.size w).alloc (Nat.le_refl _) (.cells #[.slice A n c, .slice B m e] 27)).alloc (by simp) (.cells #[.slice A' n' c', .slice B' m' e'] 27)).alloc (by simp; omega) (.cells #[.slice none 0 0, .slice none 0 0] 27)
  have ha : (((w.alloc (.cells #[.slice A n c, .slice B m e] 27)).alloc (.cells #[.slice A' n' c', .slice B' m' e'] 27)).alloc (.cells #[.slice none 0 0, .slice none 0 0] 27)).heap[w.heap.size]? = some (.cells #[.slice A n c, .slice B m e] 27) := alloc3_0 w (.cells #[.slice A n c, .slice B m e] 27) (.cells #[.slice A' n' c', .slice B' m' e'] 27) (.cells #[.slice none 0 0, .slice none 0 0] 27)
  have ha' : (((w.alloc (.cells #[.slice A n c, .slice B m e] 27)).alloc (.cells #[.slice A' n' c', .slice B' m' e'] 27)).alloc (.cells #[.slice none 0 0, .slice none 0 0] 27)).heap[w.heap.size + 1]? = some (.cells #[.slice A' n' c', .slice B' m' e'] 27) := alloc3_1 w (.cells #[.slice A n c, .slice B m e] 27) (.cells #[.slice A' n' c', .slice B' m' e'] 27) (.cells #[.slice none 0 0, .slice none 0 0] 27)
  have hr : (((w.alloc (.cells #[.slice A n c, .slice B m e] 27)).alloc (.cells #[.slice A' n' c', .slice B' m' e'] 27)).alloc (.cells #[.slice none 0 0, .slice none 0 0] 27)).heap[w.heap.size + 1 + 1]? = some (.cells #[.slice none 0 0, .slice none 0 0] 27) := alloc3_2 w (.cells #[.slice A n c, .slice B m e] 27) (.cells #[.slice A' n' c', .slice B' m' e'] 27) (.cells #[.slice none 0 0, .slice none 0 0] 27)
  have hzs : (((w.alloc (.cells #[.slice A n c, .slice B m e] 27)).alloc (.cells #[.slice A' n' c', .slice B' m' e'] 27)).alloc (.cells #[.slice none 0 0, .slice none 0 0] 27)).heap.size = w.heap.size + 1 + 1 + 1 := by simp
  go_enter Try.func14, Try.ntmps14
  go_upto_region 1 with fail
  generalize ((w.alloc (.cells #[.slice A n c, .slice B m e] 27)).alloc (.cells #[.slice A' n' c', .slice B' m' e'] 27)).alloc (.cells #[.slice none 0 0, .slice none 0 0] 27) = W at *
  have HT := Lib.hid (ten_mk (hI.below hz) hnc (hJ.below hz) hme)
  have HT' := Lib.hid (ten_mk (hI'.below hz) hnc' (hJ'.below hz) hme')
  have HA' := Lib.hid ha'
  have HZ := Lib.hid hz
  have HZS := Lib.hid hzs
  have HA := Lib.hid ha
  have HR := Lib.hid hr
  clear hI hJ hI' hJ' hz hzs ha ha' hr
  have a0 := cell0_of HA.out
  have a1 := cell1_of HA.out
  have b0 := cell0_of HA'.out
  have b1 := cell1_of HA'.out
  have d0 := cell0_of HR.out
  have d1 := cell1_of HR.out
  have f0 := frozen_of_row _ _ 0 _ _ HR.out
  have f1 := frozen_of_row _ _ 1 _ _ HR.out
  by_cases hop : op < 6 ∨ 11 < op
  · have HX := Lib.hid (twoR_arg (s := s) (d := d) (t := t) (k := k) hop)
    have hgs : op < 6 ∨ (¬ op < 6 ∧ op > 11) := by omega
    clear a0 a1 b0 b1 hop
    rcases hgs with hg4 | ⟨hg4, hg5⟩
    all_goals (
      go_wp2
      rw [HX.out]
      refine ret_ten2 (w.heap.size + 1 + 1) _ _ (.int .i64 1) Try.results14 rfl rfl (block_set2 HR.out _ _) rfl ?_
      exact ⟨⟨_, rfl, _, _, 0, 0, rfl, OwnS.nil_ _ _ _, OwnS.nil_ _ _ _⟩, (HZ.out.setCell (by show w.heap.size ≤ w.heap.size + 1 + 1; omega) _).setCell (by show w.heap.size ≤ w.heap.size + 1 + 1; omega) _⟩
      )
  · have hop' : 6 ≤ op ∧ op ≤ 11 := by omega
    clear hop
    obtain ⟨tgt, htg⟩ : ∃ z, z = List.zipWith (stepF op) d k := ⟨_, rfl⟩
    have HQ1 := Lib.hid (fun hr : (tenRight s d && (tenRight t k && t == s)) = false => twoR_shape hop' hr)
    have HQ2 := Lib.hid (fun hr : (tenRight s d && (tenRight t k && t == s)) = true => (twoR_ok hop' hr).trans (show _ = ((0, s, tgt) : Int × List Int × List Int) by rw [htg]))
    have HAT := Lib.hid (show ∀ j x y, d[j]? = some x → k[j]? = some y → tgt[j]? = some (stepF op x y) from fun j x y hx hy => by rw [htg]; exact zip_at hx hy)
    have HTL := Lib.hid (show k.length = d.length → tgt.length = d.length by intro hl; rw [htg]; simp; omega)
    clear htg
    have hg4 : ¬ op < 6 := by omega
    have hg5 : ¬ op > 11 := by omega
    clear hop'
    have C1 := pFit_any HT.out HT'.out
    rw [fitB_two] at C1
    go_wp2_with fail
    cases hr : (tenRight s d && (tenRight t k && t == s)) with
    | false =>
      rw [hr] at C1
      refine C1.mono ?_; rintro e2 w2 ⟨rfl, hb2⟩
      have HB := Lib.hid hb2
      have HQ := Lib.hid (HQ1.out hr)
      have hr2 := (HB.out.block (w.heap.size + 1 + 1) (by have := HZS.out; omega)).trans HR.out
      have d0 := cell0_of hr2
      have d1 := cell1_of hr2
      have f0 := frozen_of_row _ _ 0 _ _ hr2
      have f1 := frozen_of_row _ _ 1 _ _ hr2
      have HR2 := Lib.hid hr2
      clear hb2 hr hr2 C1
      go_wp2
      rw [HQ.out]
      refine ret_ten2 (w.heap.size + 1 + 1) _ _ (.int .i64 13) Try.results14 rfl rfl (block_set2 HR2.out _ _) rfl ?_
      exact ⟨⟨_, rfl, _, _, 0, 0, rfl, OwnS.nil_ _ _ _, OwnS.nil_ _ _ _⟩, ((then_ HZ.out HB.out).setCell (by show w.heap.size ≤ w.heap.size + 1 + 1; omega) _).setCell (by show w.heap.size ≤ w.heap.size + 1 + 1; omega) _⟩
    | true =>
      rw [hr] at C1
      refine C1.mono ?_; rintro e2 w2 ⟨rfl, hb2⟩
      have HB := Lib.hid hb2
      have HRT := Lib.hid hr
      obtain ⟨hra, hrb, hrs⟩ := right_two hr
      have HRA := Lib.hid hra
      have HTL := Lib.hid (HTL.out (by have := len_right hra; have := len_right hrb; rw [hrs] at *; omega))
      have HKL := Lib.hid (show k.length = d.length by have := len_right hra; have := len_right hrb; rw [hrs] at *; omega)
      clear hra hrb hrs
      have a0 := box_keep HB.out a0
      have a1 := box_keep HB.out a1
      have HT2 := Lib.hid (HT.out.below HB.out)
      have HFT := Lib.hid (ten_ints HT2.out).2.fit
      clear hb2 hr C1
      go_wp2_with fail
      refine (tCopy_own HT2.out (by have := (right_len HRA.out).1; omega) (by have := (right_len HRA.out).2; omega)).mono ?_; rintro e3 w3 ⟨⟨u, ga, gb, ns, N, rfl, rfl, hvs, hvd⟩, hb3⟩
      have hDN : d.length = N := hvd.len
      have hN : tgt.length = N := by have := HTL.out; omega
      have hNle : N ≤ 9223372036854775807 := hvd.2.2
      have HDN := Lib.hid hDN
      have hvs : OwnS w3 w2.heap.size 3 (.slice (some ⟨ga, 0, none⟩) ns ns) ns s := hvs
      have hvd : OwnS w3 w2.heap.size 2 (.slice (some ⟨gb, 0, none⟩) N N) N d := hvd
      have hL := laying_new (then_ HB.out hb3) (hvs.mono HB.out.size) (hvd.mono HB.out.size)
      have HN := Lib.hid hN
      clear hb3 hvs hvd hN hDN a0 a1 b0 b1
      go_upto_region 6 with fail
      generalize w3.alloc (.cells #[.slice (some ⟨ga, 0, none⟩) ns ns, .slice (some ⟨gb, 0, none⟩) N N] 27) = w4 at *
      generalize w3.heap.size = gt at *
      have t1 := cell1_of hL.2.1
      have HL := Lib.hid hL
      clear hL
      go_wp2_with fail
      clear t1
      go_loopw [28] (fun kv wr => ∃ j : Nat, kv = .int .i64 j ∧ j ≤ N ∧ Laying W wr gt (some ⟨ga, 0, none⟩) (some ⟨gb, 0, none⟩) ns ns N N s (mix tgt d j)) (fun kv _ => N - (intOf kv).toNat)
      case atStart => exact ⟨0, rfl, by omega, by rw [mix_zero]; exact HL.out⟩
      case round =>
        obtain ⟨j, rfl, hj, hL⟩ := hrel
        have hLr := hL
        have HLr := Lib.hid hL
        have t0 := cell0_of hL.2.1
        have t1 := cell1_of hL.2.1
        have hb := hL.2.2.2.2
        have hz := (hb.block (w.heap.size + 1 + 1) (by have := HZS.out; omega)).trans HR.out
        have HB4 := Lib.hid hb
        have HT4 := Lib.hid (HT.out.below hb)
        have HT5 := Lib.hid (HT'.out.below hb)
        have b1 := cell1_of ((hb.block (w.heap.size + 1) (by have := HZS.out; omega)).trans HA'.out)
        have a1 := cell1_of ((hb.block w.heap.size (by have := HZS.out; omega)).trans HA.out)
        have hgt := hL.1
        by_cases hlt : j < N
        · have hO : Own wr W.heap.size 2 gb N N _ := hL.2.2.2.1
          obtain ⟨x, hx⟩ : ∃ x, d[j]? = some x := ⟨_, List.getElem?_eq_getElem (by have := HDN.out; omega)⟩
          have hfx : Fits x := HFT.out x (List.mem_of_getElem? hx)
          obtain ⟨_, i3⟩ := ten_ints HT5.out
          have hjm' : j < m' := by have := i3.len; have := HDN.out; have := HKL.out; omega
          obtain ⟨bd', y, rfl, hbl', hy, hcy, hfy⟩ := i3.at_ (k := j) hjm'
          have HS := Lib.hid ((HLr.out.drew 1).store j (stepF_fits op hfx hfy))
          have HX := Lib.hid hx
          have HY := Lib.hid hy
          have hcs := hO.cell (j := j) (x := x) (by rw [mix_at (by have := HN.out; have := HDN.out; omega) (by have := HDN.out; omega)]; exact hx)
          have hfs := hO.frozen j
          obtain ⟨hn1, hn2⟩ := hLr.ne
          have k0 := keep_set (q := ⟨gb, j, none⟩) (u := .int .i64 (stepF op x y)) t1 hn1
          have hbW' := (ten_ints HT'.out).2.lt bd' rfl (by omega)
          have k3 := keep_set (q := ⟨gb, j, none⟩) (u := .int .i64 (stepF op x y)) b1 (by show w.heap.size + 1 ≠ gb; have := HZS.out; omega)
          have k4 := keep_set (q := ⟨gb, j, none⟩) (u := .int .i64 (stepF op x y)) hcy (by rw [block_of_add]; show bd'.block ≠ gb; omega)
          clear hL hb hz i3 hO hx hfx hy hfy t0 a1
          go_wp2_with fail
          go_region_held3 (fun w' => w'.cell? ⟨gt, 1, none⟩ = some (.slice (some ⟨gb, 0, none⟩) N N) ∧ w'.cell? ⟨w.heap.size + 1, 1, none⟩ = some (.slice (some bd') m' e') ∧ w'.cell? (bd'.add j) = some (.int .i64 y)) (go_keep)
            (first | (go_at_call 8; refine (pStep_any _ _ _ _).mono ?_; rintro e5 w5 ⟨rfl, rfl⟩))
          clear k0 k3 k4 b1 t1 hcy hcs hfs
          go_wp2
          go_roundw
          case rel => exact ⟨j + 1, by go_num, by omega, by rw [← mix_set (by have := HN.out; have := HDN.out; omega) (HAT.out j x y HX.out HY.out)]; exact HS.out⟩
          case measure => simp [intOf]; omega
        · obtain rfl : j = N := by omega
          rw [show mix tgt d j = tgt by have := mix_full (t := tgt) (o := d) (by have := HN.out; have := HDN.out; omega); rwa [HDN.out] at this] at HLr
          have d0 := cell0_of hz
          have d1 := cell1_of hz
          have f0 := frozen_of_row _ _ 0 _ _ hz
          have f1 := frozen_of_row _ _ 1 _ _ hz
          have HZr := Lib.hid hz
          have HQ := Lib.hid (HQ2.out HRT.out)
          clear hL hb hz a1 b1
          go_wp2
          rw [HQ.out]
          refine ret_ten2 (w.heap.size + 1 + 1) _ _ (.int .i64 0) Try.results14 rfl rfl (block_set2 HZr.out _ _) rfl ?_
          have hgr := grown_trans (grown_setCell wr (w.heap.size + 1 + 1) 0 (.slice (some ⟨ga, 0, none⟩) ns ns)) (grown_setCell _ (w.heap.size + 1 + 1) 1 (.slice (some ⟨gb, 0, none⟩) j j))
          exact ⟨⟨_, rfl, _, _, ns, j, rfl, (HLr.out.2.2.1.grown hgr (by have := HZS.out; omega)).mono (by have := HZS.out; omega), (HLr.out.2.2.2.1.grown hgr (by have := HZS.out; omega)).mono (by have := HZS.out; omega)⟩, ((then_ HZ.out HB4.out).setCell (by show w.heap.size ≤ w.heap.size + 1 + 1; omega) _).setCell (by show w.heap.size ≤ w.heap.size + 1 + 1; omega) _⟩
theorem set_same {l : List Int} {j : Nat} {x : Int} (h : l[j]? = some x) : l.set j x = l := by
  apply List.ext_getElem?
  intro i
  rw [List.getElem?_set]
  by_cases hi : j = i
  · subst hi; rw [if_pos rfl, h, if_pos (List.getElem?_eq_some_iff.1 h).1]
  · rw [if_neg hi]

set_option maxHeartbeats 6400000 in
theorem pPick_any {w : World} {v0 v v' : Value} {cs cd s d t k : List Int} (h0 : Ten w v0 cs cd) (h : Ten w v s d) (h' : Ten w v' t k) :
    Calls Try.prog 16 #[v0, v, v'] w fun e w' => (∃ u, e = .returned (.tuple #[u, .int .i64 (pickR cs cd s d t k).1]) ∧ OTen w' w.heap.size u (pickR cs cd s d t k).2.1 (pickR cs cd s d t k).2.2) ∧ Below w.heap.size w w' := by
  obtain ⟨A0, n0, c0, B0, m0, e0, rfl, hnc0, hme0, hI0, hJ0⟩ := h0
  obtain ⟨A, n, c, B, m, e, rfl, hnc, hme, hI, hJ⟩ := h
  obtain ⟨A', n', c', B', m', e', rfl, hnc', hme', hI', hJ'⟩ := h'
  have hz0 := (((Below.refl w.heap.size w).alloc (Nat.le_refl _) (.cells #[.slice A0 n0 c0, .slice B0 m0 e0] 27)).alloc (by simp) (.cells #[.slice A n c, .slice B m e] 27)).alloc (by simp; omega) (.cells #[.slice A' n' c', .slice B' m' e'] 27)
  have hz := hz0.alloc (by simp; omega) (.cells #[.slice none 0 0, .slice none 0 0] 27)
  have hx0 : (((w.alloc (.cells #[.slice A0 n0 c0, .slice B0 m0 e0] 27)).alloc (.cells #[.slice A n c, .slice B m e] 27)).alloc (.cells #[.slice A' n' c', .slice B' m' e'] 27)).heap.size = w.heap.size + 1 + 1 + 1 := by simp
  have hzx := (Below.refl (((w.alloc (.cells #[.slice A0 n0 c0, .slice B0 m0 e0] 27)).alloc (.cells #[.slice A n c, .slice B m e] 27)).alloc (.cells #[.slice A' n' c', .slice B' m' e'] 27)).heap.size (((w.alloc (.cells #[.slice A0 n0 c0, .slice B0 m0 e0] 27)).alloc (.cells #[.slice A n c, .slice B m e] 27)).alloc (.cells #[.slice A' n' c', .slice B' m' e'] 27))).alloc (Nat.le_refl _) (.cells #[.slice none 0 0, .slice none 0 0] 27)
  have hc : ((((w.alloc (.cells #[.slice A0 n0 c0, .slice B0 m0 e0] 27)).alloc (.cells #[.slice A n c, .slice B m e] 27)).alloc (.cells #[.slice A' n' c', .slice B' m' e'] 27)).alloc (.cells #[.slice none 0 0, .slice none 0 0] 27)).heap[w.heap.size]? = some (.cells #[.slice A0 n0 c0, .slice B0 m0 e0] 27) := (hzx.block _ (by rw [hx0]; omega)).trans (alloc3_0 w (.cells #[.slice A0 n0 c0, .slice B0 m0 e0] 27) (.cells #[.slice A n c, .slice B m e] 27) (.cells #[.slice A' n' c', .slice B' m' e'] 27))
  have ha : ((((w.alloc (.cells #[.slice A0 n0 c0, .slice B0 m0 e0] 27)).alloc (.cells #[.slice A n c, .slice B m e] 27)).alloc (.cells #[.slice A' n' c', .slice B' m' e'] 27)).alloc (.cells #[.slice none 0 0, .slice none 0 0] 27)).heap[w.heap.size + 1]? = some (.cells #[.slice A n c, .slice B m e] 27) := (hzx.block _ (by rw [hx0]; omega)).trans (alloc3_1 w (.cells #[.slice A0 n0 c0, .slice B0 m0 e0] 27) (.cells #[.slice A n c, .slice B m e] 27) (.cells #[.slice A' n' c', .slice B' m' e'] 27))
  have ha' : ((((w.alloc (.cells #[.slice A0 n0 c0, .slice B0 m0 e0] 27)).alloc (.cells #[.slice A n c, .slice B m e] 27)).alloc (.cells #[.slice A' n' c', .slice B' m' e'] 27)).alloc (.cells #[.slice none 0 0, .slice none 0 0] 27)).heap[w.heap.size + 1 + 1]? = some (.cells #[.slice A' n' c', .slice B' m' e'] 27) := (hzx.block _ (by rw [hx0]; omega)).trans (alloc3_2 w (.cells #[.slice A0 n0 c0, .slice B0 m0 e0] 27) (.cells #[.slice A n c, .slice B m e] 27) (.cells #[.slice A' n' c', .slice B' m' e'] 27))
  have hr : ((((w.alloc (.cells #[.slice A0 n0 c0, .slice B0 m0 e0] 27)).alloc (.cells #[.slice A n c, .slice B m e] 27)).alloc (.cells #[.slice A' n' c', .slice B' m' e'] 27)).alloc (.cells #[.slice none 0 0, .slice none 0 0] 27)).heap[w.heap.size + 1 + 1 + 1]? = some (.cells #[.slice none 0 0, .slice none 0 0] 27) := by have := heap_alloc_new (((w.alloc (.cells #[.slice A0 n0 c0, .slice B0 m0 e0] 27)).alloc (.cells #[.slice A n c, .slice B m e] 27)).alloc (.cells #[.slice A' n' c', .slice B' m' e'] 27)) (.cells #[.slice none 0 0, .slice none 0 0] 27); rwa [hx0] at this
  have hzs : ((((w.alloc (.cells #[.slice A0 n0 c0, .slice B0 m0 e0] 27)).alloc (.cells #[.slice A n c, .slice B m e] 27)).alloc (.cells #[.slice A' n' c', .slice B' m' e'] 27)).alloc (.cells #[.slice none 0 0, .slice none 0 0] 27)).heap.size = w.heap.size + 1 + 1 + 1 + 1 := by simp
  clear hz0 hx0 hzx
  go_enter Try.func16, Try.ntmps16
  go_upto_region 1 with fail
  generalize ((((w.alloc (.cells #[.slice A0 n0 c0, .slice B0 m0 e0] 27)).alloc (.cells #[.slice A n c, .slice B m e] 27)).alloc (.cells #[.slice A' n' c', .slice B' m' e'] 27)).alloc (.cells #[.slice none 0 0, .slice none 0 0] 27)) = W at *
  have HT0 := Lib.hid (ten_mk (hI0.below hz) hnc0 (hJ0.below hz) hme0)
  have HT := Lib.hid (ten_mk (hI.below hz) hnc (hJ.below hz) hme)
  have HT' := Lib.hid (ten_mk (hI'.below hz) hnc' (hJ'.below hz) hme')
  have HZ := Lib.hid hz
  have HZS := Lib.hid hzs
  have HA0 := Lib.hid hc
  have HA := Lib.hid ha
  have HA' := Lib.hid ha'
  have HR := Lib.hid hr
  clear hI0 hJ0 hI hJ hI' hJ' hz hzs hc ha ha' hr
  have z0 := cell0_of HA0.out
  have z1 := cell1_of HA0.out
  have a0 := cell0_of HA.out
  have a1 := cell1_of HA.out
  have b0 := cell0_of HA'.out
  have b1 := cell1_of HA'.out
  obtain ⟨tgt, htg⟩ : ∃ z, z = pick3 cd d k := ⟨_, rfl⟩
  have HQ2 := Lib.hid (fun hr : (tenRight cs cd && (tenRight s d && s == cs && (tenRight t k && t == cs))) = true => (pickR_ok hr).trans (show _ = ((0, s, tgt) : Int × List Int × List Int) by rw [htg]))
  have HAT := Lib.hid (show ∀ (j : Nat) (z x y : Int), cd[j]? = some z → d[j]? = some x → k[j]? = some y → tgt[j]? = some (if z = 0 then y else x) from fun j z x y hz hx hy => by rw [htg]; exact pick3_at hz hx hy)
  have HTL := Lib.hid (show d.length = cd.length → k.length = cd.length → tgt.length = cd.length by intro h1 h2; rw [htg]; exact pick3_length _ _ _ h1 h2)
  clear htg
  have C1 := pFit_any HT0.out HT.out
  go_wp2_with fail
  have hfit : (tenRight cs cd && (tenRight s d && s == cs && (tenRight t k && t == cs))) = (fitB cs cd s d && fitB cs cd t k) := by
    rw [fitB_two, fitB_two]
    cases tenRight cs cd <;> cases tenRight s d <;> cases (s == cs) <;> simp
  have HFI := Lib.hid hfit
  clear hfit
  have d0 := cell0_of HR.out
  have d1 := cell1_of HR.out
  cases h1 : fitB cs cd s d with
  | false =>
    rw [h1] at C1
    refine C1.mono ?_; rintro e2 w2 ⟨rfl, hb2⟩
    have HB := Lib.hid hb2
    have HQ := Lib.hid (pickR_shape (HFI.out.trans (by rw [h1]; rfl)))
    have hr2 := (HB.out.block (w.heap.size + 1 + 1 + 1) (by have := HZS.out; omega)).trans HR.out
    have d0 := cell0_of hr2
    have d1 := cell1_of hr2
    have f0 := frozen_of_row _ _ 0 _ _ hr2
    have f1 := frozen_of_row _ _ 1 _ _ hr2
    have HR2 := Lib.hid hr2
    clear hb2 hr2 h1 C1 z0 z1 a0 a1 b0 b1
    go_wp2
    rw [HQ.out]
    refine ret_ten2 (w.heap.size + 1 + 1 + 1) _ _ (.int .i64 13) Try.results16 rfl rfl (block_set2 HR2.out _ _) rfl ?_
    exact ⟨⟨_, rfl, _, _, 0, 0, rfl, OwnS.nil_ _ _ _, OwnS.nil_ _ _ _⟩, ((then_ HZ.out HB.out).setCell (by show w.heap.size ≤ w.heap.size + 1 + 1 + 1; omega) _).setCell (by show w.heap.size ≤ w.heap.size + 1 + 1 + 1; omega) _⟩
  | true =>
    rw [h1] at C1
    refine C1.mono ?_; rintro e1 w1 ⟨rfl, hb1⟩
    have HB1 := Lib.hid hb1
    have H1 := Lib.hid h1
    have z0 := box_keep hb1 z0
    have z1 := box_keep hb1 z1
    have a0 := box_keep hb1 a0
    have a1 := box_keep hb1 a1
    have b0 := box_keep hb1 b0
    have b1 := box_keep hb1 b1
    have C2 := pFit_any (HT0.out.below hb1) (HT'.out.below hb1)
    clear hb1 C1 h1
    go_wp2_with fail
    cases h2 : fitB cs cd t k with
    | false =>
      rw [h2] at C2
      refine C2.mono ?_; rintro e2 w2 ⟨rfl, hb2⟩
      have HB := Lib.hid (then_ HB1.out hb2)
      have HQ := Lib.hid (pickR_shape (HFI.out.trans (by rw [h2, H1.out]; rfl)))
      have hr2 := (HB.out.block (w.heap.size + 1 + 1 + 1) (by have := HZS.out; omega)).trans HR.out
      have d0 := cell0_of hr2
      have d1 := cell1_of hr2
      have f0 := frozen_of_row _ _ 0 _ _ hr2
      have f1 := frozen_of_row _ _ 1 _ _ hr2
      have HR2 := Lib.hid hr2
      clear hb2 hr2 h2 C2 z0 z1 a0 a1 b0 b1
      go_wp2
      rw [HQ.out]
      refine ret_ten2 (w.heap.size + 1 + 1 + 1) _ _ (.int .i64 13) Try.results16 rfl rfl (block_set2 HR2.out _ _) rfl ?_
      exact ⟨⟨_, rfl, _, _, 0, 0, rfl, OwnS.nil_ _ _ _, OwnS.nil_ _ _ _⟩, ((then_ HZ.out HB.out).setCell (by show w.heap.size ≤ w.heap.size + 1 + 1 + 1; omega) _).setCell (by show w.heap.size ≤ w.heap.size + 1 + 1 + 1; omega) _⟩
    | true =>
      rw [h2] at C2
      refine C2.mono ?_; rintro e2 w2 ⟨rfl, hb2⟩
      have hr := HFI.out.trans (by rw [h2, H1.out]; rfl : (fitB cs cd s d && fitB cs cd t k) = true)
      have z0 := box_keep hb2 z0
      have z1 := box_keep hb2 z1
      have a0 := box_keep hb2 a0
      have a1 := box_keep hb2 a1
      have HB := Lib.hid (then_ HB1.out hb2)
      clear h2 C2
      obtain ⟨hra, hrb, hrc, hrs, hrt⟩ := right_three hr
      have hdl : d.length = cd.length := by have := len_right hra; have := len_right hrb; rw [hrs] at *; omega
      have hkl : k.length = cd.length := by have := len_right hra; have := len_right hrc; rw [hrt] at *; omega
      have HDL := Lib.hid hdl
      have HKL := Lib.hid hkl
      have HRB := Lib.hid hrb
      have HQ := Lib.hid (HQ2.out hr)
      replace HTL := Lib.hid (HTL.out hdl hkl)
      have HT2 := Lib.hid (HT.out.below HB.out)
      have HFT := Lib.hid (ten_ints HT2.out).2.fit
      clear hb2 hr hra hrb hrc hrs hrt hdl hkl z0 b0 b1
      go_wp2_with fail
      refine (tCopy_own HT2.out (by have := (right_len HRB.out).1; omega) (by have := (right_len HRB.out).2; omega)).mono ?_; rintro e3 w3 ⟨⟨u, ga, gb, ns, N, rfl, rfl, hvs, hvd⟩, hb3⟩
      have hDN : d.length = N := hvd.len
      have hN : tgt.length = N := by have := HTL.out; have := HDL.out; omega
      obtain rfl : N = m0 := by have := (ten_ints HT0.out).2.len; have := HDL.out; omega
      have hNle : N ≤ 9223372036854775807 := hvd.2.2
      have HDN := Lib.hid hDN
      have z1 := cell1_of ((then_ HB.out hb3).block w.heap.size (by have := HZS.out; omega) |>.trans HA0.out)
      have z1' := alloc_keep (.cells #[.slice (some ⟨ga, 0, none⟩) ns ns, .slice (some ⟨gb, 0, none⟩) N N] 27) z1
      have hvs : OwnS w3 w2.heap.size 3 (.slice (some ⟨ga, 0, none⟩) ns ns) ns s := hvs
      have hvd : OwnS w3 w2.heap.size 2 (.slice (some ⟨gb, 0, none⟩) N N) N d := hvd
      have hL := laying_new (then_ HB.out hb3) (hvs.mono HB.out.size) (hvd.mono HB.out.size)
      have HN := Lib.hid hN
      clear hb3 hvs hvd hN hDN a0 a1 z1
      go_upto_region 4 with fail
      generalize w3.alloc (.cells #[.slice (some ⟨ga, 0, none⟩) ns ns, .slice (some ⟨gb, 0, none⟩) N N] 27) = w4 at *
      generalize w3.heap.size = gt at *
      have t1 := cell1_of hL.2.1
      have HL := Lib.hid hL
      clear hL
      go_wp2_with fail
      clear t1 z1'
      go_loopw [27] (fun kv wr => ∃ j : Nat, kv = .int .i64 j ∧ j ≤ N ∧ Laying W wr gt (some ⟨ga, 0, none⟩) (some ⟨gb, 0, none⟩) ns ns N N s (mix tgt d j)) (fun kv _ => N - (intOf kv).toNat)
      case atStart => exact ⟨0, rfl, by omega, by rw [mix_zero]; exact HL.out⟩
      case round =>
        obtain ⟨j, rfl, hj, hL⟩ := hrel
        have HLr := Lib.hid hL
        have t0 := cell0_of hL.2.1
        have t1 := cell1_of hL.2.1
        have hb := hL.2.2.2.2
        have hz := (hb.block (w.heap.size + 1 + 1 + 1) (by have := HZS.out; omega)).trans HR.out
        have HB4 := Lib.hid hb
        have hgt := hL.1
        by_cases hlt : j < N
        · have hO : Own wr W.heap.size 2 gb N N _ := hL.2.2.2.1
          have b1 := cell1_of ((hb.block (w.heap.size + 1 + 1) (by have := HZS.out; omega)).trans HA'.out)
          obtain ⟨_, i1⟩ := ten_ints (HT0.out.below hb)
          obtain ⟨_, i3⟩ := ten_ints (HT'.out.below hb)
          have hj0 := hlt
          have hj2 : j < m' := by have := i3.len; have := HDN.out; have := HDL.out; have := HKL.out; omega
          obtain ⟨zd, z, rfl, hbl0, hz0, hcz, hfz⟩ := i1.at_ (k := j) hj0
          obtain ⟨bd', y, rfl, hbl', hy, hcy, hfy⟩ := i3.at_ (k := j) hj2
          obtain ⟨x, hx⟩ : ∃ x, d[j]? = some x := ⟨_, List.getElem?_eq_getElem (by have := HDN.out; omega)⟩
          have HXT := Lib.hid (HAT.out j z x y hz0 hx hy)
          have hmx : (mix tgt d j)[j]? = some x := by rw [mix_at (by have := HN.out; have := HDN.out; omega) (by have := HDN.out; omega)]; exact hx
          have hcs := hO.cell hmx
          have HMX := Lib.hid hmx
          have hfs := hO.frozen j
          obtain ⟨hn1, hn2⟩ := hL.ne
          have hbW' := (ten_ints HT'.out).2.lt bd' rfl (by omega)
          have k0 := keep_set (q := ⟨gb, j, none⟩) (u := .int .i64 y) t1 hn1
          have k1' := keep_set (q := ⟨gb, j, none⟩) (u := .int .i64 y) b1 (by show w.heap.size + 1 + 1 ≠ gb; have := HZS.out; omega)
          have k2' := keep_set (q := ⟨gb, j, none⟩) (u := .int .i64 y) hcy (by rw [block_of_add]; show bd'.block ≠ gb; omega)
          have HLN := Lib.hid hL
          have HL1 := Lib.hid ((HLr.out.drew 1).store j hfy)
          have HML := Lib.hid (show tgt.length = d.length by have := HN.out; have := HDN.out; omega)
          clear hL hb hz i1 i3 hO hx hfy hy hz0 hfz t0 hmx
          by_cases hzz : z = 0
          · have HXT := Lib.hid (show tgt[j]? = some y by have := HXT.out; rwa [if_pos hzz] at this)
            subst hzz
            go_upto_region 8 with fail
            go_region_held3 (fun w' => w'.cell? ⟨gt, 1, none⟩ = some (.slice (some ⟨gb, 0, none⟩) N N) ∧ w'.cell? ⟨w.heap.size + 1 + 1, 1, none⟩ = some (.slice (some bd') m' e') ∧ w'.cell? (bd'.add j) = some (.int .i64 y)) (go_keep) (fail)
            clear k0 k1' k2' b1 t1 hcz hcy hcs hfs
            go_wp2
            go_roundw
            case rel => exact ⟨j + 1, by go_num, by omega, by rw [← mix_set HML.out HXT.out]; exact HL1.out⟩
            case measure => simp [intOf]; omega
          · have HXT := Lib.hid (show tgt[j]? = some x by have := HXT.out; rwa [if_neg hzz] at this)
            have hzf : (z == 0) = false := by simpa using hzz
            have HSM := Lib.hid (show mix tgt d (j + 1) = mix tgt d j by rw [← mix_set HML.out HXT.out]; exact set_same HMX.out)
            clear hzz k0 k1' k2' b1 t1 hcy hcs hfs
            go_wp2
            go_roundw
            case rel => exact ⟨j + 1, by go_num, by omega, by rw [HSM.out]; exact HLN.out⟩
            case measure => simp [intOf]; omega
        · obtain rfl : j = N := by omega
          rw [show mix tgt d j = tgt by have := mix_full (t := tgt) (o := d) (by have := HN.out; have := HDN.out; omega); rwa [HDN.out] at this] at HLr
          have d0 := cell0_of hz
          have d1 := cell1_of hz
          have f0 := frozen_of_row _ _ 0 _ _ hz
          have f1 := frozen_of_row _ _ 1 _ _ hz
          have HZr := Lib.hid hz
          clear hL hb hz
          go_wp2
          rw [HQ.out]
          refine ret_ten2 (w.heap.size + 1 + 1 + 1) _ _ (.int .i64 0) Try.results16 rfl rfl (block_set2 HZr.out _ _) rfl ?_
          have hgr := grown_trans (grown_setCell wr (w.heap.size + 1 + 1 + 1) 0 (.slice (some ⟨ga, 0, none⟩) ns ns)) (grown_setCell _ (w.heap.size + 1 + 1 + 1) 1 (.slice (some ⟨gb, 0, none⟩) j j))
          exact ⟨⟨_, rfl, _, _, ns, j, rfl, (HLr.out.2.2.1.grown hgr (by have := HZS.out; omega)).mono (by have := HZS.out; omega), (HLr.out.2.2.2.1.grown hgr (by have := HZS.out; omega)).mono (by have := HZS.out; omega)⟩, ((then_ HZ.out HB4.out).setCell (by show w.heap.size ≤ w.heap.size + 1 + 1 + 1; omega) _).setCell (by show w.heap.size ≤ w.heap.size + 1 + 1 + 1; omega) _⟩
end Go.Proofs.Ytmekkhegokcpoaa
