/- Contracts of package tensor: Set, Fill, Iota. -/
import Derived.Test.YtiigbkjkmfjhcaaTenB
namespace Go.Proofs.Ytiigbkjkmfjhcaa
open Go.RowKit

theorem tenIx_small {s d p : List Int} (h : 0 ≤ tenIx s d p) : s.length ≤ 4 ∧ d.length ≤ 4096 := by
  unfold tenIx at h
  cases hr : tenRight s d with
  | false => rw [hr] at h; simp at h
  | true =>
    simp only [tenRight, Bool.and_eq_true, decide_eq_true_eq] at hr
    have := Sh.size_bd s
    exact ⟨(Sh.right_iff.1 hr.1).1, by omega⟩

def fillErr (s : List Int) : Int := if Sh.right s then 0 else 13
def fillS (s : List Int) : List Int := if Sh.right s then s else []
def fillD (s : List Int) (x : Int) : List Int := if Sh.right s then List.replicate (Sh.size s).toNat x else []
theorem fillErr_true {s : List Int} (h : Sh.right s = true) : fillErr s = 0 := by simp [fillErr, h]
theorem fillErr_false {s : List Int} (h : Sh.right s = false) : fillErr s = 13 := by simp [fillErr, h]
theorem fillS_true {s : List Int} (h : Sh.right s = true) : fillS s = s := by simp [fillS, h]
theorem fillS_false {s : List Int} (h : Sh.right s = false) : fillS s = [] := by simp [fillS, h]
theorem fillD_true {s : List Int} {x : Int} (h : Sh.right s = true) : fillD s x = List.replicate (Sh.size s).toNat x := by simp [fillD, h]
theorem fillD_false {s : List Int} {x : Int} (h : Sh.right s = false) : fillD s x = [] := by simp [fillD, h]

set_option maxRecDepth 100000 in
set_option maxHeartbeats 1600000 in
theorem tFill_any {w : World} {A : Option Addr} {n c : Nat} {s : List Int} (x : Int) (h : Ints w A n s) (hx : Fits x) :
    Calls Try.prog 24 #[.slice A n c, .int .i64 x] w fun e w' => (∃ v, e = .returned (.tuple #[v, .int .i64 (fillErr s)]) ∧ OTen w' w.heap.size v (fillS s) (fillD s x)) ∧ Below w.heap.size w w' := by
  have hZ := (Below.refl w.heap.size w).alloc (Nat.le_refl _) (.cells #[.slice none 0 0, .slice none 0 0] 27)
  have hzb := heap_alloc_new w (.cells #[.slice none 0 0, .slice none 0 0] 27)
  have hzs : (w.alloc (.cells #[.slice none 0 0, .slice none 0 0] 27)).heap.size = w.heap.size + 1 := by simp
  go_enter Try.func24, Try.ntmps24
  go_upto_region 1 with fail
  generalize w.alloc (.cells #[.slice none 0 0, .slice none 0 0] 27) = wz at *
  have hI := h.below hZ
  cases hr : Sh.right s with
  | false =>
    have HR := Lib.hid hr
    have d0 := cell0_of hzb
    have d1 := cell1_of hzb
    have f0 := frozen_of_row _ _ 0 _ _ hzb
    have f1 := frozen_of_row _ _ 1 _ _ hzb
    have HZB := Lib.hid hzb
    have HB := Lib.hid hZ
    clear hr hzb hzs hZ
    go_wp2_with fail
    refine (right_any hI).mono ?_; rw [HR.out]; rintro e w' ⟨rfl, rfl⟩
    go_wp2
    refine ret_ten2 w.heap.size _ _ _ Try.results24 rfl rfl (block_set2 HZB.out _ _) rfl ?_
    rw [fillErr_false HR.out, fillS_false HR.out, fillD_false HR.out]
    exact ⟨⟨_, rfl, _, _, 0, 0, rfl, OwnS.nil_ _ _ _, OwnS.nil_ _ _ _⟩, (HB.out.setCell (Nat.le_refl _) _).setCell (Nat.le_refl _) _⟩
  | true =>
    have HR := Lib.hid hr
    have hn4 : n ≤ 4 := by have := (Sh.right_iff.1 hr).1; have := h.len; omega
    have HZS := Lib.hid hzs
    have HZB := Lib.hid hzb
    have HB := Lib.hid hZ
    clear hr hzb hzs hZ
    go_wp2_with fail
    refine (right_any hI).mono ?_; rw [HR.out]; rintro e w' ⟨rfl, rfl⟩
    go_wp2_with fail
    refine (zeroes_any hI (by omega)).mono ?_; rintro e w1 ⟨⟨v, rfl, vs, vd, ns, N, rfl, hOs, hOd⟩, hb1⟩
    have hNN := hOd.len
    rw [List.length_replicate] at hNN
    subst hNN
    obtain ⟨hsz0, hsz1⟩ := Sh.size_bd s
    generalize hNs : (Sh.size s).toNat = N at *
    have HNS := Lib.hid hNs
    have hN4 : N ≤ 4096 := by omega
    clear hNs hsz0 hsz1
    obtain ⟨A1, k1, rfl, hk1, _, _⟩ := hOs.form
    obtain ⟨B, k2, rfl, hk2, _, _⟩ := hOd.form
    have hB1 := HB.out.trans (hb1.mono (by have := HZS.out; omega))
    have hz1 := (hb1.block w.heap.size (by have := HZS.out; omega)).trans HZB.out
    have hs1 : w.heap.size < w1.heap.size := by have := hb1.size; have := HZS.out; omega
    rw [HZS.out] at hOs hOd
    have hgx := heap_alloc_new w1 (.cells #[.slice A1 ns k1, .slice B N k2] 27)
    have hb2 := (Below.refl w1.heap.size w1).alloc (Nat.le_refl _) (.cells #[.slice A1 ns k1, .slice B N k2] 27)
    have hz2 := (hb2.block _ hs1).trans hz1
    have hOs2 := hOs.below hb2
    have hOd2 := hOd.below hb2
    have hB2 := hB1.trans (hb2.mono (by omega))
    have HU := Lib.hid (Upto.start (ys := List.replicate N 0) (zs := List.replicate N x) (by simp))
    clear hz1 hB1 hb1 hb2 hOs hOd
    go_upto_region 4 with fail
    generalize w1.alloc (.cells #[.slice A1 ns k1, .slice B N k2] 27) = w2 at *
    have c1 := cell1_of hgx
    have HX := Lib.hid hgx
    have HZ := Lib.hid hz2
    have HS := Lib.hid hOs2
    have HD := Lib.hid hOd2
    have HB2 := Lib.hid hB2
    clear hgx hz2 hOs2 hOd2 hB2
    go_wp2_with fail
    go_loopw [17] (fun kv wr => ∃ (j : Nat) (d : List Int), kv = .int .i64 j ∧ j ≤ N ∧ wr.heap[w1.heap.size]? = some (.cells #[.slice A1 ns k1, .slice B N k2] 27 (0, 0)) ∧ wr.heap[w.heap.size]? = some (.cells #[.slice none 0 0, .slice none 0 0] 27 (0, 0)) ∧ OwnS wr (w.heap.size + 1) 3 (.slice A1 ns k1) ns s ∧ OwnS wr (w.heap.size + 1) 2 (.slice B N k2) N d ∧ Upto j d (List.replicate N x) ∧ Below w.heap.size w wr) (fun kv _ => N - (intOf kv).toNat)
    case atStart => exact ⟨0, _, rfl, by omega, HX.out, HZ.out, HS.out, HD.out, HU.out, HB2.out⟩
    case round =>
      clear HX HZ HS HD HU HB2 c1
      obtain ⟨j, d, rfl, hj, hgx, hz2, hOs, hOd, hU, hB⟩ := hrel
      have hcx := cell1_of hgx
      have hcy := cell0_of hgx
      have hxl : w1.heap.size < wr.heap.size := block_lt_of_cell hcx
      by_cases hlt : j < N
      · obtain ⟨gb, cb, hv, hO⟩ := hOd.own (by omega)
        injection hv with hv1 _ hv3
        subst hv1
        subst hv3
        obtain ⟨hgb, hgb1⟩ := hO.base_
        have hdl := hO.len
        obtain ⟨dj, hdj⟩ : ∃ x, d[j]? = some x := ⟨_, List.getElem?_eq_getElem (by omega : j < d.length)⟩
        have hcs := hO.cell hdj
        have hfs := hO.frozen j
        obtain ⟨csb, hbk⟩ := hO.blk
        have hgr := grown_setCell wr gb j (.int .i64 x)
        have hne := ne_blk hO hgx (by decide)
        have hx4 := Lib.hid ((hgr.block _ hxl (by simp; omega)).trans hgx)
        have hz4 := Lib.hid ((hgr.block w.heap.size (by omega) (by simp; omega)).trans hz2)
        have hS4 := Lib.hid (OwnS.grownNe hOs hgr (OwnS.apart hOs hbk ty_ne.1))
        have hO4 := Lib.hid (hO.store j hx)
        have hB4 := Lib.hid (hB.setCell (p := ⟨gb, j, none⟩) (by show w.heap.size ≤ gb; omega) (.int .i64 x))
        have hU4 := Lib.hid (hU.set_ (u := x) (by rw [List.getElem?_replicate, if_pos hlt]))
        clear hgx hz2 hOs hOd hU hB hdl hdj hbk hgr hO
        go_wp2
        go_roundw
        case rel => exact ⟨j + 1, _, by go_num, by omega, hx4.out, hz4.out, hS4.out, hO4.out, hU4.out, hB4.out⟩
        case measure => simp [intOf]; omega
      · have hd0 := cell0_of hz2
        have hd1 := cell1_of hz2
        have hf2 := frozen_of_row _ _ 0 _ _ hz2
        have hf3 := frozen_of_row _ _ 1 _ _ hz2
        have HZ2 := Lib.hid hz2
        have HB := Lib.hid hB
        obtain rfl : d = List.replicate N x := hU.all (by simp; omega)
        have HOs := Lib.hid hOs
        have HOd := Lib.hid hOd
        clear hz2 hgx hB hU hOs hOd
        go_wp2
        refine ret_ten2 w.heap.size _ _ _ Try.results24 rfl rfl (block_set2 HZ2.out _ _) rfl ?_
        have hb := (HB.out.setCell (p := ⟨w.heap.size, 0, none⟩) (Nat.le_refl _) (.slice A1 ns k1)).setCell (p := ⟨w.heap.size, 1, none⟩) (Nat.le_refl _) (.slice B N k2)
        have hgr := grown_trans (grown_setCell wr w.heap.size 0 (.slice A1 ns k1)) (grown_setCell _ w.heap.size 1 (.slice B N k2))
        rw [fillErr_true HR.out, fillS_true HR.out, fillD_true HR.out, HNS.out]
        exact ⟨⟨_, rfl, _, _, ns, N, rfl, (HOs.out.grown hgr (by omega)).mono (by omega), (HOd.out.grown hgr (by omega)).mono (by omega)⟩, hb⟩

end Go.Proofs.Ytiigbkjkmfjhcaa
