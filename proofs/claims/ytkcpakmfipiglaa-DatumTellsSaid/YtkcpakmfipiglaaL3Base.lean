/- The law functions row, runes, whole of stage 3. -/
import Derived.Test.YtkcpakmfipiglaaTenD
import Derived.Test.YtkcpakmfipiglaaRef9
namespace Go.Proofs.Ytkcpakmfipiglaa
open Go.RowKit

/-- A literal list of one number, the call's own. -/
theorem own_one {w : World} {g base : Nat} {i : Int} {e : TypeId} (hg : w.heap[g]? = some (.cells #[.int .i64 i] e (0, 0))) (hb : base ≤ g) (hf : Fits i) : OwnS w base e (.slice (some ⟨g, 0, none⟩) 1 1) 1 [i] :=
  ⟨⟨rfl, .inr ⟨g, 1, _, rfl, hb, hg, Nat.le_refl _, by decide, rfl, rfl⟩⟩, by intro x hx; simp at hx; subst hx; exact hf, by omega⟩

theorem OwnS.ints_of {w : World} {base : Nat} {e : TypeId} {A : Option Addr} {n c : Nat} {xs : List Int} (h : OwnS w base e (.slice A n c) n xs) : Ints w A n xs := by
  obtain ⟨A', c', hv, _, hI, _⟩ := h.form
  injection hv with h1 _ _
  subst h1
  exact hI

set_option maxHeartbeats 1600000 in
theorem lrow_any {w : World} {A : Option Addr} {n c : Nat} {l : List Int} (h : Ints w A n l) (hn : n ≤ 17592186044000) :
    Calls Try.prog 20 #[.slice A n c] w fun e w' => (∃ v, e = .returned v ∧ OTen w' w.heap.size v [(n : Int)] l) ∧ Below w.heap.size w w' := by
  have hz := (Below.refl w.heap.size w).alloc (Nat.le_refl _) (.cells #[.slice none 0 0, .slice none 0 0] 26)
  have hzb := heap_alloc_new w (.cells #[.slice none 0 0, .slice none 0 0] 26)
  have hzs := size_alloc w (.cells #[.slice none 0 0, .slice none 0 0] 26)
  go_enter Try.func20, Try.ntmps20
  go_upto_region 1 with fail
  generalize w.alloc (.cells #[.slice none 0 0, .slice none 0 0] 26) = wz at *
  have hI := h.below hz
  have hE := (Hollow.new (base := w.heap.size + 1) (wz.alloc (.cells #[.int .i64 (n : Int)] 3)) 2 (by rw [size_alloc]; omega))
  have hB2 := ((Below.refl wz.heap.size wz).alloc (Nat.le_refl _) (.cells #[.int .i64 (n : Int)] 3)).alloc (by simp) (.cells #[] 2)
  have hL := heap_alloc2_old wz (.cells #[.int .i64 (n : Int)] 3) (.cells #[] 2)
  have hI2 := hI.below hB2
  have hZ2 := (hB2.block w.heap.size (by omega)).trans hzb
  rw [size_alloc] at hE
  have HE := Lib.hid hE
  have HI2 := Lib.hid hI2
  have HZ2 := Lib.hid hZ2
  have HL := Lib.hid hL
  have HB2 := Lib.hid hB2
  have HZ := Lib.hid hz
  have HZS := Lib.hid hzs
  have hle := h.le
  clear hE hI2 hZ2 hL hB2 hz hzs hzb hI h
  go_wp2_with (at_builtin; refine wpList_append_fresh rfl (.tmp 6) (.tmp 7) 23 2 rfl Try.underlying23 Try.infoI64 (w.heap.size + 1) _ (by rfl) HE.out (by rw [size_alloc, size_alloc]; have := HZS.out; omega) A n c l rfl HI2.out hn ?_; intro v1 w1 hO1 hb1; obtain ⟨B, e1, rfl, he1, _, _⟩ := hO1.form; have hb1' : Below ((wz.alloc (.cells #[.int .i64 (n : Int)] 3)).alloc (.cells #[] 2)).heap.size _ w1 := hb1; have hs2 : ((wz.alloc (.cells #[.int .i64 (n : Int)] 3)).alloc (.cells #[] 2)).heap.size = wz.heap.size + 1 + 1 := (by simp); have hz3 := (hb1'.block w.heap.size (by have := HZS.out; omega)).trans HZ2.out; have hl3 := (hb1'.block wz.heap.size (by omega)).trans HL.out; have hd0 := cell0_of hz3; have hd1 := cell1_of hz3; have f0 := frozen_of_row _ _ 0 _ _ hz3; have f1 := frozen_of_row _ _ 1 _ _ hz3; have HZ3 := Lib.hid hz3; have HL3 := Lib.hid hl3; have HO1 := Lib.hid hO1; have HB3 := Lib.hid ((HZ.out.trans (HB2.out.mono (by have := HZS.out; omega))).trans (hb1'.mono (by have := HZS.out; omega))); clear hz3 hl3 hO1 hb1 hb1' hs2)
  refine ret_ten w.heap.size _ _ Try.results20 rfl (block_set2 HZ3.out _ _) rfl ?_
  have hgr := grown_trans (grown_setCell w1 w.heap.size 0 (.slice (some ⟨wz.heap.size, 0, none⟩) 1 1)) (grown_setCell _ w.heap.size 1 (.slice B n e1))
  exact ⟨⟨_, rfl, _, _, 1, n, rfl, ((own_one HL3.out (by have := HZS.out; omega) ⟨by omega, by omega⟩ : OwnS w1 (w.heap.size + 1) _ _ _ _).grown hgr (by omega)).mono (by omega), (HO1.out.grown hgr (by omega)).mono (by omega)⟩, (HB3.out.setCell (Nat.le_refl _) _).setCell (Nat.le_refl _) _⟩
set_option maxHeartbeats 1600000 in
theorem lrunes_any (w : World) (s : ByteArray) (hs : s.size ≤ 17592186044000) :
    Calls Try.prog 21 #[.string s] w fun e w' => (∃ v, e = .returned v ∧ OTen w' w.heap.size v [((runesOf s).length : Int)] (runesOf s)) ∧ Below w.heap.size w w' := by
  have hz := (Below.refl w.heap.size w).alloc (Nat.le_refl _) (.cells #[.slice none 0 0, .slice none 0 0] 26)
  have hzb := heap_alloc_new w (.cells #[.slice none 0 0, .slice none 0 0] 26)
  have hzs := size_alloc w (.cells #[.slice none 0 0, .slice none 0 0] 26)
  have HS := Lib.hid hs
  clear hs
  go_enter Try.func21, Try.ntmps21
  go_upto_region 1 with fail
  generalize w.alloc (.cells #[.slice none 0 0, .slice none 0 0] 26) = wz at *
  go_wp2_with fail
  refine (refRunes_any wz s HS.out).mono ?_; rintro e w1 ⟨⟨v, n, rfl, hO⟩, hb1⟩
  obtain ⟨A, c, rfl, hc, hI, _⟩ := hO.form
  have hrl : (runesOf s).length = n := hI.len
  have hnl : n ≤ 17592186044000 := by rw [← hrl]; exact Nat.le_trans (runesOf_length s) HS.out
  have HB1 := Lib.hid (hz.trans (hb1.mono (by omega)))
  have HZ1 := Lib.hid ((hb1.block w.heap.size (by omega)).trans hzb)
  have hwl : w.heap.size < w1.heap.size := by have := hb1.size; omega
  have HRL := Lib.hid hrl
  have HI := Lib.hid hI
  have hb2 := Below.refl w1.heap.size w1
  clear hz hzb hzs hO hb1 hI hrl
  go_wp2_with fail
  go_loopw [3, 9] (fun lv kv wr => ∃ j : Nat, kv = .int .i64 j ∧ j ≤ n ∧ OwnS wr w1.heap.size 2 lv j ((runesOf s).take j) ∧ Below w1.heap.size w1 wr) (fun _ kv _ => n - (intOf kv).toNat)
  case atStart => exact ⟨0, rfl, by omega, OwnS.nil_ _ _ _, hb2⟩
  case round =>
    clear hb2
    obtain ⟨j, rfl, hj, hO, hB⟩ := hrel
    have HO := Lib.hid hO
    have HB := Lib.hid hB
    have hIr := intsR_keep HI.out hB
    have hsz : w1.heap.size ≤ wr.heap.size := hB.size
    clear hO hB
    by_cases hlt : j < n
    · obtain ⟨ad, x, rfl, hb, hx, hcx, hf⟩ := hIr.at_ hlt
      obtain ⟨hf1, hf2⟩ := hf
      have HX := Lib.hid hx
      clear hx hIr
      go_wp2_with (at_builtin; refine wpList_append_int rfl _ _ 23 2 rfl Try.underlying23 Try.infoI64 w1.heap.size _ j _ rfl HO.out ?c1 x ?c2 _ rfl ?c3 ?_)
      case c1 => omega
      case c2 => exact ⟨by omega, by omega⟩
      case c3 => omega
      intro v' w3 hO3 hB3 hg3
      have HB4 := Lib.hid (HB.out.trans (hB3.mono (Nat.le_refl _)))
      have HO3 := Lib.hid hO3
      clear hB3 hg3 hcx hO3
      go_wp2
      go_roundw
      case rel => exact ⟨j + 1, by go_num, by omega, by rw [List.take_add_one, HX.out]; exact HO3.out, HB4.out⟩
      case measure => simp [intOf]; omega
    · obtain rfl : j = n := by omega
      have hO := HO.out
      rw [List.take_of_length_le (by rw [HRL.out]; exact Nat.le_refl _)] at hO
      obtain ⟨P, q, rfl, hq, hJ, _⟩ := hO.form
      have hb2 := HB1.out.trans (HB.out.mono (by omega))
      have hz2 := (HB.out.block _ hwl).trans HZ1.out
      have HB2 := Lib.hid hb2
      have HZ2 := Lib.hid hz2
      clear hO hIr hb2 hz2 HO
      go_wp2_with fail
      refine (lrow_any hJ hnl).mono ?_; rintro e w4 ⟨⟨vt, rfl, hvt⟩, hb4⟩
      obtain ⟨vs, vd, ms, md, rfl, hvs, hvd⟩ := hvt
      obtain ⟨A5, c5, rfl, _, _, _⟩ := hvs.form
      obtain ⟨B5, e5, rfl, _, _, _⟩ := hvd.form
      have hz3 := (hb4.block _ (by omega : w.heap.size < wr.heap.size)).trans HZ2.out
      have hd0 := cell0_of hz3
      have hd1 := cell1_of hz3
      have f0 := frozen_of_row _ _ 0 _ _ hz3
      have f1 := frozen_of_row _ _ 1 _ _ hz3
      have HZ3 := Lib.hid hz3
      have HVS := Lib.hid hvs
      have HVD := Lib.hid hvd
      have HB5 := Lib.hid (HB2.out.trans (hb4.mono (by omega)))
      clear hz3 hvs hvd hb4 hJ
      go_wp2
      refine ret_ten w.heap.size _ _ Try.results21 rfl (block_set2 HZ3.out _ _) rfl ?_
      have hgr := grown_trans (grown_setCell w4 w.heap.size 0 (.slice A5 ms c5)) (grown_setCell _ w.heap.size 1 (.slice B5 md e5))
      rw [HRL.out]
      exact ⟨⟨_, rfl, _, _, ms, md, rfl, (HVS.out.grown hgr (by omega)).mono (by omega), (HVD.out.grown hgr (by omega)).mono (by omega)⟩, (HB5.out.setCell (Nat.le_refl _) _).setCell (Nat.le_refl _) _⟩

set_option maxHeartbeats 1600000 in
/-- A tensor of rank 0 with that one number. -/
theorem lwhole_any {w : World} {v : Value} (x : Int) (h : Ten w v [] [x]) :
    Calls Try.prog 24 #[v, .int .i64 x] w fun e w' => e = .returned (.bool true) ∧ Below w.heap.size w w' := by
  obtain ⟨A, n, c, B, m, e, rfl, hnc, hme, hI, hJ⟩ := h
  obtain rfl : n = 0 := hI.len.symm
  obtain rfl : m = 1 := hJ.len.symm
  obtain ⟨bd, y, rfl, hbl, hy, hcy, _⟩ := hJ.at_ (k := 0) (by omega)
  obtain rfl : y = x := by simp at hy; exact hy.symm
  have hb := (Below.refl w.heap.size w).alloc (Nat.le_refl _) (.cells #[.slice A 0 c, .slice (some bd) 1 e] 26)
  have g0 := heap_alloc_new w (.cells #[.slice A 0 c, .slice (some bd) 1 e] 26)
  have hcy2 := (hb.cell (p := bd.add 0) (by rw [block_of_add]; exact hbl)).trans hcy
  have e0 : bd.add 0 = bd := by cases bd; rfl
  rw [e0] at hcy2
  have hyy : (y == y) = true := by simp
  clear hI hJ hcy hy e0
  go_enter Try.func24, Try.ntmps24
  go_upto_region 1 with fail
  generalize w.alloc (.cells #[.slice A 0 c, .slice (some bd) 1 e] 26) = W at *
  have a0 := cell0_of g0
  have a1 := cell1_of g0
  have HB := Lib.hid hb
  clear hb g0
  go_wp2
  go_ret
  exact ⟨rfl, HB.out⟩
end Go.Proofs.Ytkcpakmfipiglaa
