/- Contracts of the fourth reference, chapter 4: Two, Pick. -/
import Derived.Test.YtihjobpdphljiaaRef4
namespace Go.Proofs.Ytihjobpdphljiaa
open Go.RowKit

theorem tens_two {w : World} {g : Nat} {S D S' D' : Option Addr} {sn sc dn dc sn' sc' dn' dc' : Nat} {s d t k : List Int} (hg : w.heap[g]? = some (.cells #[.slice S sn sc, .slice D dn dc, .slice S' sn' sc', .slice D' dn' dc'] 26 (0, 0)))
    (h : Ten w (.agg #[.slice S sn sc, .slice D dn dc]) s d) (h' : Ten w (.agg #[.slice S' sn' sc', .slice D' dn' dc']) t k) : Tens w (some ⟨g, 0, none⟩) 2 [(s, d), (t, k)] :=
  ⟨rfl, by omega, fun j x hx => by
    have c0 : w.cell? ⟨g, 0, none⟩ = _ := cell_of_row _ _ 0 _ _ _ hg
    have c1 : w.cell? ⟨g, 1, none⟩ = _ := cell_of_row _ _ 1 _ _ _ hg
    have c2 : w.cell? ⟨g, 2, none⟩ = _ := cell_of_row _ _ 2 _ _ _ hg
    have c3 : w.cell? ⟨g, 3, none⟩ = _ := cell_of_row _ _ 3 _ _ _ hg
    match j, hx with
    | 0, hx => simp at hx; subst hx; exact ⟨_, S, sn, sc, D, dn, dc, rfl, block_lt_of_cell c0, c0, c1, h⟩
    | 1, hx => simp at hx; subst hx; exact ⟨_, S', sn', sc', D', dn', dc', rfl, block_lt_of_cell c0, c2, c3, h'⟩
    | j + 2, hx => simp at hx⟩
theorem allR_two {s d t k : List Int} : allR (s, d) [(s, d), (t, k)] = if (tenRight s d && (tenRight t k && t == s)) = true then 0 else 13 := by simp [allR]
theorem right_two {s d t k : List Int} (h : (tenRight s d && (tenRight t k && t == s)) = true) : tenRight s d = true ∧ tenRight t k = true ∧ t = s := by
  simp only [Bool.and_eq_true, beq_iff_eq] at h
  exact ⟨h.1, h.2.1, h.2.2⟩

set_option maxHeartbeats 3200000 in
theorem ref4Two_any {w : World} {v v' : Value} {s d t k : List Int} (op : Int) (h : Ten w v s d) (h' : Ten w v' t k) :
    Calls Try.prog 13 #[.int .i64 op, v, v'] w fun e w' => (∃ u, e = .returned (.tuple #[u, .int .i64 (twoR op s d t k).1]) ∧ OTen w' w.heap.size u (twoR op s d t k).2.1 (twoR op s d t k).2.2) ∧ Below w.heap.size w w' := by
  obtain ⟨A, n, c, B, m, e, rfl, hnc, hme, hI, hJ⟩ := h
  obtain ⟨A', n', c', B', m', e', rfl, hnc', hme', hI', hJ'⟩ := h'
  have hz := (((Below.refl w.heap.size w).alloc (Nat.le_refl _) (.cells #[.slice A n c, .slice B m e] 26)).alloc (by simp) (.cells #[.slice A' n' c', .slice B' m' e'] 26)).alloc (by simp; omega) (.cells #[.slice none 0 0, .slice none 0 0] 26)
  have ha : (((w.alloc (.cells #[.slice A n c, .slice B m e] 26)).alloc (.cells #[.slice A' n' c', .slice B' m' e'] 26)).alloc (.cells #[.slice none 0 0, .slice none 0 0] 26)).heap[w.heap.size]? = some (.cells #[.slice A n c, .slice B m e] 26) := alloc3_0 w (.cells #[.slice A n c, .slice B m e] 26) (.cells #[.slice A' n' c', .slice B' m' e'] 26) (.cells #[.slice none 0 0, .slice none 0 0] 26)
  have ha' : (((w.alloc (.cells #[.slice A n c, .slice B m e] 26)).alloc (.cells #[.slice A' n' c', .slice B' m' e'] 26)).alloc (.cells #[.slice none 0 0, .slice none 0 0] 26)).heap[w.heap.size + 1]? = some (.cells #[.slice A' n' c', .slice B' m' e'] 26) := alloc3_1 w (.cells #[.slice A n c, .slice B m e] 26) (.cells #[.slice A' n' c', .slice B' m' e'] 26) (.cells #[.slice none 0 0, .slice none 0 0] 26)
  have hr : (((w.alloc (.cells #[.slice A n c, .slice B m e] 26)).alloc (.cells #[.slice A' n' c', .slice B' m' e'] 26)).alloc (.cells #[.slice none 0 0, .slice none 0 0] 26)).heap[w.heap.size + 1 + 1]? = some (.cells #[.slice none 0 0, .slice none 0 0] 26) := alloc3_2 w (.cells #[.slice A n c, .slice B m e] 26) (.cells #[.slice A' n' c', .slice B' m' e'] 26) (.cells #[.slice none 0 0, .slice none 0 0] 26)
  have hzs : (((w.alloc (.cells #[.slice A n c, .slice B m e] 26)).alloc (.cells #[.slice A' n' c', .slice B' m' e'] 26)).alloc (.cells #[.slice none 0 0, .slice none 0 0] 26)).heap.size = w.heap.size + 1 + 1 + 1 := by simp
  go_enter Try.func13, Try.ntmps13
  go_upto_region 1 with fail
  generalize ((w.alloc (.cells #[.slice A n c, .slice B m e] 26)).alloc (.cells #[.slice A' n' c', .slice B' m' e'] 26)).alloc (.cells #[.slice none 0 0, .slice none 0 0] 26) = W at *
  have HT := Lib.hid (ten_mk (hI.below hz) hnc (hJ.below hz) hme)
  have HT' := Lib.hid (ten_mk (hI'.below hz) hnc' (hJ'.below hz) hme')
  have HA' := Lib.hid ha'
  have HZ := Lib.hid hz
  have HZS := Lib.hid hzs
  have HA := Lib.hid ha
  have HR := Lib.hid hr
  clear hI hJ hI' hJ' hz hzs ha ha' hr
  have a0 := cell0_of HA.out
  have a1 := cell1_of HA.out
  have b0 := cell0_of HA'.out
  have b1 := cell1_of HA'.out
  have d0 := cell0_of HR.out
  have d1 := cell1_of HR.out
  have f0 := frozen_of_row _ _ 0 _ _ HR.out
  have f1 := frozen_of_row _ _ 1 _ _ HR.out
  by_cases hop : op < 6 ∨ 11 < op
  · have HX := Lib.hid (twoR_arg (s := s) (d := d) (t := t) (k := k) hop)
    have hgs : op < 6 ∨ (¬ op < 6 ∧ op > 11) := by omega
    clear a0 a1 b0 b1 hop
    rcases hgs with hg4 | ⟨hg4, hg5⟩
    all_goals (
      go_wp2
      rw [HX.out]
      refine ret_ten2 (w.heap.size + 1 + 1) _ _ (.int .i64 1) Try.results13 rfl rfl (block_set2 HR.out _ _) rfl ?_
      exact ⟨⟨_, rfl, _, _, 0, 0, rfl, OwnS.nil_ _ _ _, OwnS.nil_ _ _ _⟩, (HZ.out.setCell (by show w.heap.size ≤ w.heap.size + 1 + 1; omega) _).setCell (by show w.heap.size ≤ w.heap.size + 1 + 1; omega) _⟩
      )
  · have hop' : 6 ≤ op ∧ op ≤ 11 := by omega
    clear hop
    obtain ⟨tgt, htg⟩ : ∃ z, z = List.zipWith (stepF op) d k := ⟨_, rfl⟩
    have HQ1 := Lib.hid (fun hr : (tenRight s d && (tenRight t k && t == s)) = false => twoR_shape hop' hr)
    have HQ2 := Lib.hid (fun hr : (tenRight s d && (tenRight t k && t == s)) = true => (twoR_ok hop' hr).trans (show _ = ((0, s, tgt) : Int × List Int × List Int) by rw [htg]))
    have HAT := Lib.hid (show ∀ j x y, d[j]? = some x → k[j]? = some y → tgt[j]? = some (stepF op x y) from fun j x y hx hy => by rw [htg]; exact zip_at hx hy)
    have HTL := Lib.hid (show k.length = d.length → tgt.length = d.length by intro hl; rw [htg]; simp; omega)
    clear htg
    have hg4 : ¬ op < 6 := by omega
    have hg5 : ¬ op > 11 := by omega
    clear hop'
    have hx := (Below.refl W.heap.size W).alloc (Nat.le_refl _) (.cells #[.slice A n c, .slice B m e, .slice A' n' c', .slice B' m' e'] 26)
    have C1 := ref4All_any (c := 2) (tens_two (heap_alloc_new W (.cells #[.slice A n c, .slice B m e, .slice A' n' c', .slice B' m' e'] 26)) (HT.out.below hx) (HT'.out.below hx))
    rw [allR_two] at C1
    have HX := Lib.hid hx
    clear hx
    go_wp2_with fail
    cases hr : (tenRight s d && (tenRight t k && t == s)) with
    | false =>
      rw [hr] at C1
      refine C1.mono ?_; rintro e2 w2 ⟨rfl, hb2⟩
      have HB := Lib.hid (then_ HX.out hb2)
      have HQ := Lib.hid (HQ1.out hr)
      have hr2 := (HB.out.block (w.heap.size + 1 + 1) (by have := HZS.out; omega)).trans HR.out
      have d0 := cell0_of hr2
      have d1 := cell1_of hr2
      have f0 := frozen_of_row _ _ 0 _ _ hr2
      have f1 := frozen_of_row _ _ 1 _ _ hr2
      have HR2 := Lib.hid hr2
      clear hb2 hr hr2 C1
      go_wp2
      rw [HQ.out]
      refine ret_ten2 (w.heap.size + 1 + 1) _ _ (.int .i64 13) Try.results13 rfl rfl (block_set2 HR2.out _ _) rfl ?_
      exact ⟨⟨_, rfl, _, _, 0, 0, rfl, OwnS.nil_ _ _ _, OwnS.nil_ _ _ _⟩, ((then_ HZ.out HB.out).setCell (by show w.heap.size ≤ w.heap.size + 1 + 1; omega) _).setCell (by show w.heap.size ≤ w.heap.size + 1 + 1; omega) _⟩
    | true =>
      rw [hr] at C1
      refine C1.mono ?_; rintro e2 w2 ⟨rfl, hb2⟩
      have HB := Lib.hid (then_ HX.out hb2)
      have HRT := Lib.hid hr
      obtain ⟨hra, hrb, hrs⟩ := right_two hr
      have HRA := Lib.hid hra
      have HTL := Lib.hid (HTL.out (by have := len_right hra; have := len_right hrb; rw [hrs] at *; omega))
      have HKL := Lib.hid (show k.length = d.length by have := len_right hra; have := len_right hrb; rw [hrs] at *; omega)
      clear hra hrb hrs
      have a0 := box_keep HB.out a0
      have a1 := box_keep HB.out a1
      have HT2 := Lib.hid (HT.out.below HB.out)
      obtain ⟨i1, i2⟩ := ten_ints HT2.out
      have I1 := Lib.hid i1
      have I2 := Lib.hid i2
      clear hb2 hr C1 i1 i2
      go_wp2_with fail
      refine (refFill_any 0 I1.out (by have := (right_len HRA.out).1; have := I1.out.len; omega) ⟨by omega, by omega⟩).mono ?_; rintro e3 w3 ⟨⟨u, rfl, hu⟩, hb3⟩
      obtain ⟨vs, vd, ns, N, rfl, hvs, hvd⟩ := hu
      have hNs : (Sh.size s).toNat = N := by have := hvd.len; rwa [List.length_replicate] at this
      have hN : tgt.length = N := by have := len_right HRA.out; have := HTL.out; omega
      rw [hNs] at hvd
      clear hNs
      have hNle : N ≤ 9223372036854775807 := hvd.2.2
      obtain ⟨A1, k1, rfl, _, _, _⟩ := hvs.form
      obtain ⟨D1, k2, rfl, _, _, _⟩ := hvd.form
      have hL := laying_new (then_ HB.out hb3) (hvs.mono HB.out.size) (hvd.mono HB.out.size)
      have HN := Lib.hid hN
      clear hb3 hvs hvd hN a0 a1 b0 b1
      go_upto_region 7 with fail
      generalize w3.alloc (.cells #[.slice A1 ns k1, .slice D1 N k2] 26) = w4 at *
      generalize w3.heap.size = gt at *
      have t1 := cell1_of hL.2.1
      have HL := Lib.hid hL
      clear hL
      go_wp2_with fail
      clear t1
      go_loopw [32] (fun kv wr => ∃ j : Nat, kv = .int .i64 j ∧ j ≤ N ∧ Laying W wr gt A1 D1 ns k1 N k2 s (mix tgt (List.replicate N 0) j)) (fun kv _ => N - (intOf kv).toNat)
      case atStart => exact ⟨0, rfl, by omega, by rw [mix_zero]; exact HL.out⟩
      case round =>
        obtain ⟨j, rfl, hj, hL⟩ := hrel
        have hLr := hL
        have HLr := Lib.hid hL
        have t0 := cell0_of hL.2.1
        have t1 := cell1_of hL.2.1
        have hb := hL.2.2.2.2
        have hz := (hb.block (w.heap.size + 1 + 1) (by have := HZS.out; omega)).trans HR.out
        have HB4 := Lib.hid hb
        have HT4 := Lib.hid (HT.out.below hb)
        have HT5 := Lib.hid (HT'.out.below hb)
        have b1 := cell1_of ((hb.block (w.heap.size + 1) (by have := HZS.out; omega)).trans HA'.out)
        have a1 := cell1_of ((hb.block w.heap.size (by have := HZS.out; omega)).trans HA.out)
        have hgt := hL.1
        by_cases hlt : j < N
        · obtain ⟨gb, cb, hv, hO⟩ := hL.2.2.2.1.own (by omega)
          injection hv with hv1 _ hv3
          subst hv1
          subst hv3
          obtain ⟨_, i2⟩ := ten_ints HT4.out
          have hjm : j < m := by have := i2.len; have := HN.out; have := HTL.out; omega
          obtain ⟨bd, x, rfl, hbl, hx, hcx, hfx⟩ := i2.at_ (k := j) hjm
          obtain ⟨_, i3⟩ := ten_ints HT5.out
          have hjm' : j < m' := by have := i3.len; have := HN.out; have := HTL.out; have := HKL.out; omega
          obtain ⟨bd', y, rfl, hbl', hy, hcy, hfy⟩ := i3.at_ (k := j) hjm'
          have HS := Lib.hid ((HLr.out.drew 1).store j (stepF_fits op hfx hfy))
          have HX := Lib.hid hx
          have HY := Lib.hid hy
          have HF := Lib.hid hfx
          have hcs := hO.cell (mix_rep HN.out hlt)
          have hfs := hO.frozen j
          obtain ⟨hn1, hn2⟩ := hLr.ne
          have hbW := (ten_ints HT.out).2.lt bd rfl (by omega)
          have k0 := keep_set (q := ⟨gb, j, none⟩) (u := .int .i64 (stepF op x y)) t1 hn1
          have k1 := keep_set (q := ⟨gb, j, none⟩) (u := .int .i64 (stepF op x y)) a1 (by show w.heap.size ≠ gb; have := HZS.out; omega)
          have hbW' := (ten_ints HT'.out).2.lt bd' rfl (by omega)
          have k3 := keep_set (q := ⟨gb, j, none⟩) (u := .int .i64 (stepF op x y)) b1 (by show w.heap.size + 1 ≠ gb; have := HZS.out; omega)
          have k4 := keep_set (q := ⟨gb, j, none⟩) (u := .int .i64 (stepF op x y)) hcy (by rw [block_of_add]; show bd'.block ≠ gb; omega)
          have k2' := keep_set (q := ⟨gb, j, none⟩) (u := .int .i64 (stepF op x y)) hcx (by rw [block_of_add]; show bd.block ≠ gb; omega)
          clear hL hb hz i2 i3 hO hx hfx hy hfy t0
          go_wp2_with fail
          go_region_held3 (fun w' => w'.cell? ⟨gt, 1, none⟩ = some (.slice (some ⟨gb, 0, none⟩) N k2) ∧ w'.cell? ⟨w.heap.size, 1, none⟩ = some (.slice (some bd) m e) ∧ w'.cell? (bd.add j) = some (.int .i64 x) ∧ w'.cell? ⟨w.heap.size + 1, 1, none⟩ = some (.slice (some bd') m' e') ∧ w'.cell? (bd'.add j) = some (.int .i64 y)) (go_keep)
            (first | (go_at_call 28; refine (ref4Step_any _ _ _ _).mono ?_; rintro e5 w5 ⟨rfl, rfl⟩))
          clear k0 k1 k2' k3 k4 a1 b1 t1 hcx hcy hcs hfs
          go_wp2
          go_roundw
          case rel => exact ⟨j + 1, by go_num, by omega, by rw [← mix_step HN.out (HAT.out j x y HX.out HY.out)]; exact HS.out⟩
          case measure => simp [intOf]; omega
        · obtain rfl : j = N := by omega
          rw [mix_end HN.out] at HLr
          have d0 := cell0_of hz
          have d1 := cell1_of hz
          have f0 := frozen_of_row _ _ 0 _ _ hz
          have f1 := frozen_of_row _ _ 1 _ _ hz
          have HZr := Lib.hid hz
          have HQ := Lib.hid (HQ2.out HRT.out)
          clear hL hb hz a1 b1
          go_wp2
          rw [HQ.out]
          refine ret_ten2 (w.heap.size + 1 + 1) _ _ (.int .i64 0) Try.results13 rfl rfl (block_set2 HZr.out _ _) rfl ?_
          have hgr := grown_trans (grown_setCell wr (w.heap.size + 1 + 1) 0 (.slice A1 ns k1)) (grown_setCell _ (w.heap.size + 1 + 1) 1 (.slice D1 j k2))
          exact ⟨⟨_, rfl, _, _, ns, j, rfl, (HLr.out.2.2.1.grown hgr (by have := HZS.out; omega)).mono (by have := HZS.out; omega), (HLr.out.2.2.2.1.grown hgr (by have := HZS.out; omega)).mono (by have := HZS.out; omega)⟩, ((then_ HZ.out HB4.out).setCell (by show w.heap.size ≤ w.heap.size + 1 + 1; omega) _).setCell (by show w.heap.size ≤ w.heap.size + 1 + 1; omega) _⟩
theorem tens_three {w : World} {g : Nat} {S D S' D' S0 D0 : Option Addr} {sn sc dn dc sn' sc' dn' dc' sn0 sc0 dn0 dc0 : Nat} {cs cd s d t k : List Int}
    (hg : w.heap[g]? = some (.cells #[.slice S0 sn0 sc0, .slice D0 dn0 dc0, .slice S sn sc, .slice D dn dc, .slice S' sn' sc', .slice D' dn' dc'] 26 (0, 0)))
    (h0 : Ten w (.agg #[.slice S0 sn0 sc0, .slice D0 dn0 dc0]) cs cd) (h : Ten w (.agg #[.slice S sn sc, .slice D dn dc]) s d) (h' : Ten w (.agg #[.slice S' sn' sc', .slice D' dn' dc']) t k) : Tens w (some ⟨g, 0, none⟩) 3 [(cs, cd), (s, d), (t, k)] :=
  ⟨rfl, by omega, fun j x hx => by
    have c0 : w.cell? ⟨g, 0, none⟩ = _ := cell_of_row _ _ 0 _ _ _ hg
    have c1 : w.cell? ⟨g, 1, none⟩ = _ := cell_of_row _ _ 1 _ _ _ hg
    have c2 : w.cell? ⟨g, 2, none⟩ = _ := cell_of_row _ _ 2 _ _ _ hg
    have c3 : w.cell? ⟨g, 3, none⟩ = _ := cell_of_row _ _ 3 _ _ _ hg
    have c4 : w.cell? ⟨g, 4, none⟩ = _ := cell_of_row _ _ 4 _ _ _ hg
    have c5 : w.cell? ⟨g, 5, none⟩ = _ := cell_of_row _ _ 5 _ _ _ hg
    match j, hx with
    | 0, hx => simp at hx; subst hx; exact ⟨_, S0, sn0, sc0, D0, dn0, dc0, rfl, block_lt_of_cell c0, c0, c1, h0⟩
    | 1, hx => simp at hx; subst hx; exact ⟨_, S, sn, sc, D, dn, dc, rfl, block_lt_of_cell c0, c2, c3, h⟩
    | 2, hx => simp at hx; subst hx; exact ⟨_, S', sn', sc', D', dn', dc', rfl, block_lt_of_cell c0, c4, c5, h'⟩
    | j + 3, hx => simp at hx⟩
theorem allR_three {cs cd s d t k : List Int} : allR (cs, cd) [(cs, cd), (s, d), (t, k)] = if (tenRight cs cd && (tenRight s d && s == cs && (tenRight t k && t == cs))) = true then 0 else 13 := by simp [allR]
theorem right_three {cs cd s d t k : List Int} (h : (tenRight cs cd && (tenRight s d && s == cs && (tenRight t k && t == cs))) = true) : tenRight cs cd = true ∧ tenRight s d = true ∧ tenRight t k = true ∧ s = cs ∧ t = cs := by
  simp only [Bool.and_eq_true, beq_iff_eq] at h
  exact ⟨h.1, h.2.1.1, h.2.2.1, h.2.1.2, h.2.2.2⟩
theorem pickR_ok {cs cd s d t k : List Int} (h : (tenRight cs cd && (tenRight s d && s == cs && (tenRight t k && t == cs))) = true) : pickR cs cd s d t k = (0, s, pick3 cd d k) := by rw [pickR, if_pos h]
theorem pickR_shape {cs cd s d t k : List Int} (h : (tenRight cs cd && (tenRight s d && s == cs && (tenRight t k && t == cs))) = false) : pickR cs cd s d t k = refused 13 := by rw [pickR, h]; rfl

end Go.Proofs.Ytihjobpdphljiaa
