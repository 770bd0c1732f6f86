/- TensorTells: the walk. -/
import Derived.Test.YtdgckcckkfgooaaL2Same
import Derived.Test.YtdgckcckkfgooaaL2Known
namespace Go.Proofs.Ytdgckcckkfgooaa
open Go.RowKit

theorem OTen.read {w w' : World} {g base : Nat} {v : Value} {s d : List Int} (h : OTen w base v s d) (hr : w.grownBy w' (some g)) (hb : g < base) : OTen w' base v s d := by
  obtain ⟨vs, vd, n, m, rfl, h1, h2⟩ := h
  exact ⟨vs, vd, n, m, rfl, h1.grown hr hb, h2.grown hr hb⟩
theorem Ten.read {w w' : World} {g : Nat} {A B : Option Addr} {n c m e : Nat} {s d : List Int} (h : Ten w (.agg #[.slice A n c, .slice B m e]) s d) (hr : w.grownBy w' (some g)) (hA : ∀ ad, A = some ad → 0 < n → ad.block ≠ g) (hB : ∀ ad, B = some ad → 0 < m → ad.block ≠ g) :
    Ten w' (.agg #[.slice A n c, .slice B m e]) s d := by
  obtain ⟨h1, h2⟩ := ints_of_ten h
  obtain ⟨A', n', c', B', m', e', hv, hc, he, _, _⟩ := h
  simp only [Value.agg.injEq, Array.mk.injEq, List.cons.injEq, Value.slice.injEq, and_true] at hv
  obtain ⟨⟨rfl, rfl, rfl⟩, rfl, rfl, rfl⟩ := hv
  exact ten_mk (h1.grown hr fun ad ha hn hh => hA ad ha hn (by injection hh)) hc (h2.grown hr fun ad hb hn hh => hB ad hb hn (by injection hh)) he

set_option maxRecDepth 100000 in
set_option maxHeartbeats 3200000 in
theorem tells2_walk {w : World} {A0 A1 A2 A3 A4 : Option Addr} {n0 c0 n1 c1 n2 c2 n3 c3 n4 c4 : Nat} {x0 x1 x2 rs rd : List Int} (x a : Int) (h0 : Ints w A0 n0 x0) (h1 : Ints w A1 n1 x1) (h2 : Ints w A2 n2 x2) (h3 : Ints w A3 n3 rs) (h4 : Ints w A4 n4 rd)
    (hc3 : n3 ≤ c3) (hc4 : n4 ≤ c4) (hn3 : n3 ≤ 17592186044000) (hn4 : n4 ≤ 17592186044000) (hx : Fits x) (ha : Fits a) :
    Calls Try.prog 4 #[.slice A0 n0 c0, .slice A1 n1 c1, .slice A2 n2 c2, .int .i64 x, .int .i64 a, .agg #[.slice A3 n3 c3, .slice A4 n4 c4]] w fun e w' => e = .returned (.bool true) ∧ Below w.heap.size w w' := by
  have hl3 := h3.lt
  have hl4 := h4.lt
  have hr := heap_alloc2_old w (.cells #[.slice A3 n3 c3, .slice A4 n4 c4] 26) (.cells #[.slice A0 n0 c0, .int .i64 0] 33)
  have hT := tape_new (c := c0) (h0.alloc (.cells #[.slice A3 n3 c3, .slice A4 n4 c4] 26))
  have hB : Below w.heap.size w ((w.alloc (.cells #[.slice A3 n3 c3, .slice A4 n4 c4] 26)).alloc (.cells #[.slice A0 n0 c0, .int .i64 0] 33)) := ((Below.refl _ _).alloc (Nat.le_refl _) _).alloc (by simp) _
  have hz : ((w.alloc (.cells #[.slice A3 n3 c3, .slice A4 n4 c4] 26)).alloc (.cells #[.slice A0 n0 c0, .int .i64 0] 33)).heap.size = w.heap.size + 1 + 1 := by simp
  rw [size_alloc] at hT
  go_enter Try.func4, Try.ntmps4
  go_upto_region 2 with fail
  generalize (w.alloc (.cells #[.slice A3 n3 c3, .slice A4 n4 c4] 26)).alloc (.cells #[.slice A0 n0 c0, .int .i64 0] 33) = wa at *
  have HX := Lib.hid hx
  have HAa := Lib.hid ha
  have HR := Lib.hid hr
  have HRT := Lib.hid (ten_mk (h3.below hB) hc3 (h4.below hB) hc4)
  have HI1 := Lib.hid (h1.below hB)
  have HI2 := Lib.hid (h2.below hB)
  have HL1 := Lib.hid h1.lt
  have HL2 := Lib.hid h2.lt
  have HB := Lib.hid hB
  have HZ := Lib.hid hz
  have HL3 := Lib.hid hl3
  have HL4 := Lib.hid hl4
  have HLn := Lib.hid h3.len
  have HLm := Lib.hid h4.len
  clear hr hB hz h0 h1 h2 h3 h4 hx ha hl3 hl4
  go_wp2_with fail
  refine (tapeShape_any hT).mono ?_; rintro e w1 ⟨⟨v, n, xs, rfl, hO, hn, hx⟩, hT1, hG1⟩
  obtain ⟨A, c, rfl, hc, hI, hA⟩ := hO.form
  have hxl := hI.len
  have hgl := hT1.lt
  have hOb : wa.heap.size = w.heap.size + 1 + 1 := HZ.out
  have HXS := Lib.hid hx
  have HO := Lib.hid hO
  have HG1 := Lib.hid hG1
  have HXL := Lib.hid hxl
  have hO2 := Lib.hid hOb
  clear hO hG1 hx hT hxl hOb
  go_wp2_with fail
  refine (tapeTensor_any hT1 hI (by omega)).mono ?_; rintro e w2 ⟨⟨vt, d, rfl, hOT, hdl⟩, hT2, hG2⟩
  obtain ⟨At, nt, ct, Bt, mt, et, rfl, hnt, hmt, _, _⟩ := hOT.ten
  have hgt := heap_alloc_new w2 (.cells #[.slice At nt ct, .slice Bt mt et] 26)
  have hxt := (Below.refl w2.heap.size w2).alloc (Nat.le_refl _) (.cells #[.slice At nt ct, .slice Bt mt et] 26)
  have hs1 : wa.heap.size ≤ w1.heap.size := HG1.out.size
  have hs2 : w1.heap.size ≤ w2.heap.size := hG2.size
  have HO3 := Lib.hid ((HO.out.grown hG2 (by have := hO2.out; omega)).below hxt)
  have HOT := Lib.hid (hOT.below hxt)
  have hT3 := hT2.below hxt
  have HG3 := Lib.hid (grown_over (grown_trans HG1.out hG2) (hxt.mono (by omega)))
  have HDL := Lib.hid hdl
  clear hxt hG2 hOT hT2 hdl hI hA hT1 HO HG1
  go_upto_region 4 with fail
  generalize w2.alloc (.cells #[.slice At nt ct, .slice Bt mt et] 26) = w3 at *
  have hgl3 := hT3.lt
  have HT0 := Lib.hid (cell0_of hgt)
  have HT1 := Lib.hid (cell1_of hgt)
  have hw23 : w2.heap.size < w3.heap.size := block_lt_of_cell HT0.out
  clear hgt
  obtain ⟨A', c', hv', hc', hI3, hA3⟩ := HO3.out.form
  injection hv' with hv1 _ hv3
  subst hv1
  subst hv3
  have hAN : ∀ ad, A = some ad → ad.block ≠ w.heap.size + 1 := fun ad he => by have := hA3 ad he; have := hO2.out; omega
  have HAN := Lib.hid hAN
  clear hAN hA3
  go_wp2_with fail
  go_loopw [16, 29] (fun p k wr => ∃ (j : Nat) (ps : List Int), j ≤ n ∧ k = .int .i64 j ∧ OwnS wr w3.heap.size 3 p j ps ∧ Tape wr (w.heap.size + 1) ∧ w3.grownBy wr (some (w.heap.size + 1))) (fun _ k _ => n - (intOf k).toNat)
  case atStart => exact ⟨0, [], by omega, rfl, OwnS.nil_ _ _ _, hT3, World.grownBy.refl _ _⟩
  case round =>
    clear hT3
    obtain ⟨j, ps, hj, rfl, hP, hT, hG⟩ := hrel
    have hsz := hG.size
    by_cases hlt : j < n
    · have hI2 := hI3.read hG HAN.out
      obtain ⟨ad, y, rfl, hb, hy, hcx, hf⟩ := hI2.at_ hlt
      have hx7 := HXS.out y (List.mem_of_getElem? hy)
      obtain ⟨hx0, hx7⟩ := hx7
      have HG := Lib.hid hG
      clear hy hG
      go_wp2_with fail
      refine (next_any (y + 1) hT ⟨by omega, by omega⟩).mono ?_; rintro e w4 ⟨⟨r, rfl, hr0, hr1⟩, hT2, hG2⟩
      have hP2 := hP.grown hG2 hgl3
      have hG3 := grown_trans HG.out hG2
      have hs3 := hG3.size
      have HP := Lib.hid hP2
      have HG3' := Lib.hid hG3
      clear hP hP2 hG2 hG3 hI2 hcx
      go_wp2_with (at_builtin; refine wpList_append_int rfl _ _ 22 3 rfl Try.underlying22 Try.infoInt w3.heap.size _ j ps rfl HP.out ?c1 r ?c2 _ rfl ?c3 ?_)
      case c1 => omega
      case c2 => exact ⟨by omega, by omega⟩
      case c3 => omega
      intro v' w5 hO4 hB4 hg4
      have hT4 := hT2.over (hB4.mono (by omega))
      have hG4 := grown_over HG3'.out hB4
      clear hB4 hg4
      go_wp2
      go_roundw
      case rel => exact ⟨j + 1, _, by omega, by go_num, hO4, hT4, hG4⟩
      case measure => simp [intOf]; omega
    · obtain rfl : j = n := by omega
      obtain ⟨P, q, rfl, hd, hJ, hPb⟩ := hP.form
      have hI2 := hI3.read hG HAN.out
      have hG5 := grown_trans HG3.out hG
      have hB5 := below_of_grown HB.out (by have := HZ.out; omega) hG5 (by omega)
      have hOT5 := HOT.out.read hG (by have := hO2.out; omega)
      have hRT5 := HRT.out.read hG5 (fun ad he hn => by have := HL3.out ad he hn; omega) (fun ad he hn => by have := HL4.out ad he hn; omega)
      have hI1 := HI1.out.grown hG5 (fun ad he hn hh => by have := HL1.out ad he hn; injection hh with hh; omega)
      have hI2' := HI2.out.grown hG5 (fun ad he hn hh => by have := HL2.out ad he hn; injection hh with hh; omega)
      have ht0 : wr.cell? ⟨w2.heap.size, 0, none⟩ = some (.slice At nt ct) := hG.cell HT0.out (by simp; have := hO2.out; omega)
      have ht1 : wr.cell? ⟨w2.heap.size, 1, none⟩ = some (.slice Bt mt et) := hG.cell HT1.out (by simp; have := hO2.out; omega)
      have hr0 : wr.cell? ⟨w.heap.size, 0, none⟩ = some (.slice A3 n3 c3) := hG5.cell (cell0_of HR.out) (by simp)
      have hr1 : wr.cell? ⟨w.heap.size, 1, none⟩ = some (.slice A4 n4 c4) := hG5.cell (cell1_of HR.out) (by simp)
      have hszb := Sh.size_bd xs
      have hdl : d.length ≤ 17592186044000 := by have := HDL.out; omega
      have hxl : xs.length ≤ 17592186044000 := by have := HXL.out; omega
      have hrl : rs.length ≤ 17592186044000 := by have := HLn.out; omega
      have hrm : rd.length ≤ 17592186044000 := by have := HLm.out; omega
      have HBz := Lib.hid hB5
      have HTz := Lib.hid hOT5.ten
      have HRz := Lib.hid hRT5
      have HJ1 := Lib.hid hI1
      have HJ2 := Lib.hid hI2'
      clear hP hT hG hG5 hB5 hI3 hOT5 hRT5 hI1 hI2' hszb
      go_wp2_with fail
      refine (l2same_any _ _ HTz.out hI2 hJ HX.out (fits_bits _ _ _) hxl hdl).mono ?_; rintro e w5 ⟨rfl, hb5⟩
      have ht0 := box_keep hb5 ht0
      have ht1 := box_keep hb5 ht1
      have hr0 := box_keep hb5 hr0
      have hr1 := box_keep hb5 hr1
      replace HTz := Lib.hid (HTz.out.below hb5)
      replace HRz := Lib.hid (HRz.out.below hb5)
      replace HJ1 := Lib.hid (HJ1.out.below hb5)
      replace HJ2 := Lib.hid (HJ2.out.below hb5)
      replace HBz := Lib.hid (then_ HBz.out hb5)
      clear hb5 hI2 hJ
      go_wp2_with fail
      refine (l2same_any _ _ HTz.out HJ1.out HJ2.out HX.out HAa.out hxl hdl).mono ?_; rintro e w6 ⟨rfl, hb6⟩
      have hr0 := box_keep hb6 hr0
      have hr1 := box_keep hb6 hr1
      replace HRz := Lib.hid (HRz.out.below hb6)
      replace HJ1 := Lib.hid (HJ1.out.below hb6)
      replace HJ2 := Lib.hid (HJ2.out.below hb6)
      replace HBz := Lib.hid (then_ HBz.out hb6)
      clear hb6 ht0 ht1
      go_wp2_with fail
      refine (l2same_any _ _ HRz.out HJ1.out HJ2.out HX.out HAa.out hrl hrm).mono ?_; rintro e w7 ⟨rfl, hb7⟩
      replace HBz := Lib.hid (then_ HBz.out hb7)
      clear hb7 hr0 hr1
      go_wp2_with fail
      refine (l2known_any _).mono ?_; rintro e w8 ⟨rfl, hb8⟩
      replace HBz := Lib.hid (then_ HBz.out hb8)
      clear hb8
      go_wp2
      go_ret
      exact ⟨rfl, HBz.out⟩
end Go.Proofs.Ytdgckcckkfgooaa
