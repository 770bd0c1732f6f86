/- Contracts of package tensor: Iota. -/
import Derived.Test.YtdgckcckkfgooaaTenC
import Derived.Deep.RegionHeld3
import Derived.RegionTactic
namespace Go.Proofs.Ytdgckcckkfgooaa
open Go.RowKit

theorem Sh.pd_pos : ∀ {s : List Int}, (∀ x ∈ s, 1 ≤ x) → 1 ≤ Sh.pd s
  | [], _ => by simp [Sh.pd]
  | x :: s, h => by
    have h1 := Sh.pd_pos (s := s) fun y hy => h y (List.mem_cons_of_mem _ hy)
    have h2 := h x (List.mem_cons_self ..)
    have := Int.mul_le_mul h2 h1 (by omega) (by omega)
    simpa [Sh.pd] using this

def iotaS (s : List Int) (a : Int) : List Int := if iotaErr s a = 0 then s else []
def iotaD (s : List Int) (a : Int) : List Int := if iotaErr s a = 0 then Sh.iota s a.toNat else []
theorem iota_shape {s : List Int} {a : Int} (h : Sh.right s = false) : iotaErr s a = 13 ∧ iotaS s a = [] ∧ iotaD s a = [] := by simp [iotaErr, iotaS, iotaD, h]
theorem iota_arg {s : List Int} {a : Int} (h : Sh.right s = true) (ha : ¬ (0 ≤ a ∧ a < s.length)) : iotaErr s a = 1 ∧ iotaS s a = [] ∧ iotaD s a = [] := by
  have : iotaErr s a = 1 := by rw [iotaErr, if_pos h, if_neg ha]
  simp [iotaS, iotaD, this]
theorem iota_ok {s : List Int} {a : Nat} (h : Sh.right s = true) (ha : a < s.length) : iotaErr s a = 0 ∧ iotaS s a = s ∧ iotaD s a = Sh.iota s a := by
  have : iotaErr s a = 0 := by rw [iotaErr, if_pos h, if_pos ⟨by omega, by omega⟩]
  simp [iotaS, iotaD, this]

set_option maxHeartbeats 1600000 in
theorem tIota_any {w : World} {A : Option Addr} {n c : Nat} {s : List Int} (a : Int) (h : Ints w A n s) (hf : Fits a) :
    Calls Try.prog 19 #[.slice A n c, .int .i64 a] w fun e w' => (∃ v, e = .returned (.tuple #[v, .int .i64 (iotaErr s a)]) ∧ OTen w' w.heap.size v (iotaS s a) (iotaD s a)) ∧ Below w.heap.size w w' := by
  obtain ⟨hf1, hf2⟩ := hf
  have hle := h.le
  have hZ := (Below.refl w.heap.size w).alloc (Nat.le_refl _) (.cells #[.slice none 0 0, .slice none 0 0] 26)
  have hzb := heap_alloc_new w (.cells #[.slice none 0 0, .slice none 0 0] 26)
  have hzs : (w.alloc (.cells #[.slice none 0 0, .slice none 0 0] 26)).heap.size = w.heap.size + 1 := by simp
  go_enter Try.func19, Try.ntmps19
  go_upto_region 1 with fail
  generalize w.alloc (.cells #[.slice none 0 0, .slice none 0 0] 26) = wz at *
  have hI := h.below hZ
  cases hr : Sh.right s with
  | false =>
    have HR := Lib.hid hr
    have HE := Lib.hid (iota_shape (a := a) hr)
    have d0 := cell0_of hzb
    have d1 := cell1_of hzb
    have f0 := frozen_of_row _ _ 0 _ _ hzb
    have f1 := frozen_of_row _ _ 1 _ _ hzb
    have HZB := Lib.hid hzb
    have HB := Lib.hid hZ
    clear hr hzb hzs hZ
    go_wp2_with fail
    refine (right_any hI).mono ?_; rw [HR.out]; rintro e w' ⟨rfl, rfl⟩
    go_wp2
    refine ret_ten2 w.heap.size _ _ _ Try.results19 rfl rfl (block_set2 HZB.out _ _) rfl ?_
    rw [HE.out.1, HE.out.2.1, HE.out.2.2]
    exact ⟨⟨_, rfl, _, _, 0, 0, rfl, OwnS.nil_ _ _ _, OwnS.nil_ _ _ _⟩, (HB.out.setCell (Nat.le_refl _) _).setCell (Nat.le_refl _) _⟩
  | true =>
    by_cases hin : 0 ≤ a ∧ a < s.length
    · obtain ⟨hin0, hin1⟩ := hin
      obtain ⟨k, rfl⟩ := Int.eq_ofNat_of_zero_le hin0
      rw [h.len] at hin1
      have hkn : k < n := by omega
      have HE := Lib.hid (iota_ok (a := k) hr (by rw [h.len]; exact hkn))
      have hn4 : n ≤ 4 := by have := (Sh.right_iff.1 hr).1; have := h.len; omega
      have HR := Lib.hid hr
      have HZS := Lib.hid hzs
      have HZB := Lib.hid hzb
      have HB := Lib.hid hZ
      have hk0 : decide ((k : Int) < 0) = false := by simp
      have hk1 : decide ((n : Int) ≤ (k : Int)) = false := by simp; omega
      have hk2 : decide (n ≤ k) = false := by simp; omega
      clear hr hzb hzs hZ hin0 hin1
      go_wp2_with fail
      refine (right_any hI).mono ?_; rw [HR.out]; rintro e w' ⟨rfl, rfl⟩
      go_wp2_with fail
      refine (zeroes_any hI (by omega)).mono ?_; rintro e w1 ⟨⟨v, rfl, vs, vd, ns, N, rfl, hOs, hOd⟩, hb1⟩
      have hNN := hOd.len
      rw [List.length_replicate] at hNN
      subst hNN
      obtain ⟨hsz0, hsz1⟩ := Sh.size_bd s
      have hcast : ((Sh.size s).toNat : Int) = Sh.size s := by omega
      generalize hNs : (Sh.size s).toNat = N at *
      have HNS := Lib.hid hNs
      have HC := Lib.hid hcast
      have hN4 : N ≤ 4096 := by omega
      clear hNs hcast hsz0 hsz1
      obtain ⟨A1, k1, rfl, hk1', _, _⟩ := hOs.form
      obtain ⟨B, k2, rfl, hk2', _, _⟩ := hOd.form
      have hB1 := HB.out.trans (hb1.mono (by have := HZS.out; omega))
      have hz1 := (hb1.block w.heap.size (by have := HZS.out; omega)).trans HZB.out
      have hs1 : w.heap.size < w1.heap.size := by have := hb1.size; have := HZS.out; omega
      rw [HZS.out] at hOs hOd
      have hgx := heap_alloc_new w1 (.cells #[.slice A1 ns k1, .slice B N k2] 26)
      have hb2 := (Below.refl w1.heap.size w1).alloc (Nat.le_refl _) (.cells #[.slice A1 ns k1, .slice B N k2] 26)
      have hz2 := (hb2.block _ hs1).trans hz1
      have hOs2 := hOs.below hb2
      have hOd2 := hOd.below hb2
      have hI2 := (hI.below hb1).below hb2
      have hB2 := hB1.trans (hb2.mono (by omega))
      have HU := Lib.hid (Upto.start (ys := List.replicate N 0) (zs := Sh.iota s k) (by rw [List.length_replicate, Sh.iota_length, HNS.out]))
      clear hz1 hB1 hb1 hb2 hOs hOd hI
      go_upto_region 6 with fail
      generalize w1.alloc (.cells #[.slice A1 ns k1, .slice B N k2] 26) = w2 at *
      have HX := Lib.hid hgx
      have HZ := Lib.hid hz2
      have HS := Lib.hid hOs2
      have HD := Lib.hid hOd2
      have HB2 := Lib.hid hB2
      have hw2 : w1.heap.size < w2.heap.size := block_lt_of_cell (cell0_of hgx)
      clear hgx hz2 hOs2 hOd2 hB2
      obtain ⟨ad, x, rfl, hbx, hx, hcx, hfx⟩ := hI2.at_ hkn
      have HXX := Lib.hid hx
      clear hx
      go_cut [7, 8] (fun u v wx => u = .int .i64 (Sh.pd (s.drop (k + 1))) ∧ v = .int .i64 x ∧ Below w2.heap.size w2 wx)
      case first =>
        go_region_with (go_at_call 33; refine (strides_any (c := c) (hI2.drew)).mono ?_; rw [if_pos HR.out]; rintro e w3 ⟨⟨P, m, q, rfl, hq, hJ⟩, hb3⟩; (obtain rfl : m = n := by rw [← hJ.len, Sh.strides_length, h.len]); obtain ⟨pa, xx, rfl, _, hxx, hcp, hff⟩ := hJ.at_ (k := k) hkn; have hcx3 := (hb3.cell (p := ad.add k) (by rw [block_of_add]; exact hbx)).trans hcx; have HXS := Lib.hid hxx; clear hxx)
        all_goals go_wp2_with fail
        all_goals go_meet
        all_goals
          obtain rfl : xx = Sh.pd (s.drop (k + 1)) := by
            have h1 := Sh.strides_at HXX.out
            have h2 := HXS.out
            rw [h1] at h2
            injection h2 with h2
            exact h2.symm
          exact ⟨rfl, rfl, by first | exact hb3 | exact (Below.refl _ _).drew.trans hb3⟩
      case rest =>
        obtain ⟨rfl, rfl, hb3⟩ := hcut
        have hgx := (hb3.block _ hw2).trans HX.out
        have hz2 := (hb3.block w.heap.size (by omega)).trans HZ.out
        have hOs2 := HS.out.below hb3
        have hOd2 := HD.out.below hb3
        have hB2 := then_ HB2.out hb3
        have c1 := cell1_of hgx
        have HX := Lib.hid hgx
        have HZ := Lib.hid hz2
        have HS := Lib.hid hOs2
        have HD := Lib.hid hOd2
        have HB2 := Lib.hid hB2
        have hpd := Sh.pd_small (Sh.right_iff.1 HR.out).2.1 (by rw [h.len]; exact hn4) (k + 1)
        obtain ⟨hpd1, hpd2⟩ := hpd
        have hx32 := (Sh.right_iff.1 HR.out).2.1 x (List.mem_of_getElem? HXX.out)
        obtain ⟨hx1, hx2⟩ := hx32
        clear hgx hz2 hOs2 hOd2 hB2 hb3
        go_wp2_with fail
        go_loopw [37] (fun kv wr => ∃ (j : Nat) (d : List Int), kv = .int .i64 j ∧ j ≤ N ∧ wr.heap[w1.heap.size]? = some (.cells #[.slice A1 ns k1, .slice B N k2] 26 (0, 0)) ∧ wr.heap[w.heap.size]? = some (.cells #[.slice none 0 0, .slice none 0 0] 26 (0, 0)) ∧ OwnS wr (w.heap.size + 1) 3 (.slice A1 ns k1) ns s ∧ OwnS wr (w.heap.size + 1) 2 (.slice B N k2) N d ∧ Upto j d (Sh.iota s k) ∧ Below w.heap.size w wr) (fun kv _ => N - (intOf kv).toNat)
        case atStart => exact ⟨0, _, rfl, by omega, HX.out, HZ.out, HS.out, HD.out, HU.out, HB2.out⟩
        case round =>
          clear HX HZ HS HD HU HB2 c1
          obtain ⟨j, d, rfl, hj, hgx, hz2, hOs, hOd, hU, hB⟩ := hrel
          have hcx := cell1_of hgx
          have hcy := cell0_of hgx
          have hxl : w1.heap.size < wr.heap.size := block_lt_of_cell hcx
          by_cases hlt : j < N
          · obtain ⟨gb, cb, hv, hO⟩ := hOd.own (by omega)
            injection hv with hv1 _ hv3
            subst hv1
            subst hv3
            obtain ⟨hgb, hgb1⟩ := hO.base_
            have hdl := hO.len
            have hji : (j : Int) < Sh.size s := by rw [← HC.out]; omega
            have hall := (Sh.size_pos (s := s) (i := j) (by omega) hji).2
            have hx3 : 1 ≤ x := (hall x (List.mem_of_getElem? HXX.out)).1
            have hpd3 : 1 ≤ Sh.pd (s.drop (k + 1)) := Sh.pd_pos fun y hy => (hall y (List.mem_of_mem_drop hy)).1
            have hia := Sh.iota_at (a := k) hji
            have hgd : (Sh.place s j).getD k 0 = j / Sh.pd (s.drop (k + 1)) % x := by rw [List.getD_eq_getElem?_getD, Sh.place_at HXX.out]; rfl
            rw [hgd] at hia
            generalize Sh.pd (s.drop (k + 1)) = st at *
            have hq1 : 0 ≤ (j : Int) / st := Int.ediv_nonneg (by omega) (by omega)
            have hq2 : (j : Int) / st ≤ j := Int.ediv_le_self _ (by omega)
            have hr1 : 0 ≤ (j : Int) / st % x := Int.emod_nonneg _ (by omega)
            have hr2 : (j : Int) / st % x < x := Int.emod_lt_of_pos _ (by omega)
            obtain ⟨dj, hdj⟩ : ∃ x, d[j]? = some x := ⟨_, List.getElem?_eq_getElem (by omega : j < d.length)⟩
            have hcs := hO.cell hdj
            have hfs := hO.frozen j
            obtain ⟨csb, hbk⟩ := hO.blk
            have hgr := grown_setCell wr gb j (.int .i64 (j / st % x))
            have hne := ne_blk hO hgx (by decide)
            have hx4 := Lib.hid ((hgr.block _ hxl (by simp; omega)).trans hgx)
            have hz4 := Lib.hid ((hgr.block w.heap.size (by omega) (by simp; omega)).trans hz2)
            have hS4 := Lib.hid (OwnS.grownNe hOs hgr (OwnS.apart hOs hbk ty_ne.1))
            have hO4 := Lib.hid (hO.store j (u := j / st % x) ⟨by omega, by omega⟩)
            have hB4 := Lib.hid (hB.setCell (p := ⟨gb, j, none⟩) (by show w.heap.size ≤ gb; omega) (.int .i64 (j / st % x)))
            have hU4 := Lib.hid (hU.set_ hia)
            clear hgx hz2 hOs hOd hU hB hdl hdj hbk hgr hO hia hall hji hgd
            go_wp2
            go_region
            all_goals go_wp2
            all_goals go_roundw
            case rel => exact ⟨j + 1, _, by go_num, by omega, hx4.out, hz4.out, hS4.out, hO4.out, hU4.out, hB4.out.drew⟩
            case measure => simp [intOf]; omega
          · have hd0 := cell0_of hz2
            have hd1 := cell1_of hz2
            have hf2 := frozen_of_row _ _ 0 _ _ hz2
            have hf3 := frozen_of_row _ _ 1 _ _ hz2
            have HZ2 := Lib.hid hz2
            have HB := Lib.hid hB
            obtain rfl : d = Sh.iota s k := hU.all (by rw [Sh.iota_length, HNS.out]; omega)
            have HOs := Lib.hid hOs
            have HOd := Lib.hid hOd
            clear hz2 hgx hB hU hOs hOd
            go_wp2
            refine ret_ten2 w.heap.size _ _ _ Try.results19 rfl rfl (block_set2 HZ2.out _ _) rfl ?_
            have hb := (HB.out.setCell (p := ⟨w.heap.size, 0, none⟩) (Nat.le_refl _) (.slice A1 ns k1)).setCell (p := ⟨w.heap.size, 1, none⟩) (Nat.le_refl _) (.slice B N k2)
            have hgr := grown_trans (grown_setCell wr w.heap.size 0 (.slice A1 ns k1)) (grown_setCell _ w.heap.size 1 (.slice B N k2))
            rw [HE.out.1, HE.out.2.1, HE.out.2.2]
            exact ⟨⟨_, rfl, _, _, ns, N, rfl, (HOs.out.grown hgr (by omega)).mono (by omega), (HOd.out.grown hgr (by omega)).mono (by omega)⟩, hb⟩
    · have HE := Lib.hid (iota_arg hr hin)
      have HR := Lib.hid hr
      have d0 := cell0_of hzb
      have d1 := cell1_of hzb
      have f0 := frozen_of_row _ _ 0 _ _ hzb
      have f1 := frozen_of_row _ _ 1 _ _ hzb
      have HZB := Lib.hid hzb
      have HB := Lib.hid hZ
      rw [h.len] at hin
      clear hr hzb hzs hZ
      by_cases ha0 : a < 0
      · clear hin
        go_wp2_with fail
        refine (right_any hI).mono ?_; rw [HR.out]; rintro e w' ⟨rfl, rfl⟩
        go_wp2
        refine ret_ten2 w.heap.size _ _ _ Try.results19 rfl rfl (block_set2 HZB.out _ _) rfl ?_
        rw [HE.out.1, HE.out.2.1, HE.out.2.2]
        exact ⟨⟨_, rfl, _, _, 0, 0, rfl, OwnS.nil_ _ _ _, OwnS.nil_ _ _ _⟩, (HB.out.setCell (Nat.le_refl _) _).setCell (Nat.le_refl _) _⟩
      · have ha1 : (n : Int) ≤ a := by omega
        clear hin
        go_wp2_with fail
        refine (right_any hI).mono ?_; rw [HR.out]; rintro e w' ⟨rfl, rfl⟩
        go_wp2
        refine ret_ten2 w.heap.size _ _ _ Try.results19 rfl rfl (block_set2 HZB.out _ _) rfl ?_
        rw [HE.out.1, HE.out.2.1, HE.out.2.2]
        exact ⟨⟨_, rfl, _, _, 0, 0, rfl, OwnS.nil_ _ _ _, OwnS.nil_ _ _ _⟩, (HB.out.setCell (Nat.le_refl _) _).setCell (Nat.le_refl _) _⟩
end Go.Proofs.Ytdgckcckkfgooaa
