/- DatumTells: the walk. -/
import Derived.Test.YtkcpakmfipiglaaL3Known
import Derived.Deep.DeepCutAuto
namespace Go.Proofs.Ytkcpakmfipiglaa
open Go.RowKit

theorem Ten.read3 {w w' : World} {g : Nat} {A B : Option Addr} {n c m e : Nat} {s d : List Int} (h : Ten w (.agg #[.slice A n c, .slice B m e]) s d) (hr : w.grownBy w' (some g)) (hA : ∀ ad, A = some ad → 0 < n → ad.block ≠ g) (hB : ∀ ad, B = some ad → 0 < m → ad.block ≠ g) :
    Ten w' (.agg #[.slice A n c, .slice B m e]) s d := by
  obtain ⟨A', n', c', B', m', e', hv, hc, he, h1, h2⟩ := h
  simp only [Value.agg.injEq, Array.mk.injEq, List.cons.injEq, Value.slice.injEq, and_true] at hv
  obtain ⟨⟨rfl, rfl, rfl⟩, rfl, rfl, rfl⟩ := hv
  exact ten_mk (h1.grown hr fun ad ha hn hh => hA ad ha hn (by injection hh)) hc (h2.grown hr fun ad hb hn hh => hB ad hb hn (by injection hh)) he

set_option maxRecDepth 100000 in
set_option maxHeartbeats 3200000 in
theorem dtells_walk {w : World} {A1 A2 A3 A4 : Option Addr} {n1 c1 n2 c2 n3 c3 n4 c4 : Nat} {l x0 rs rd : List Int} (x : Int) (s : ByteArray) (hx : Fits x) (h1 : Ints w A1 n1 l) (hn1 : n1 ≤ 17592186044000) (hc1 : n1 ≤ c1) (hs : s.size ≤ 9223372036854775807) (h2 : Ints w A2 n2 x0)
    (h3 : Ints w A3 n3 rs) (h4 : Ints w A4 n4 rd) (hc3 : n3 ≤ c3) (hc4 : n4 ≤ c4) :
    Calls Try.prog 4 #[.int .i64 x, .slice A1 n1 c1, .string s, .slice A2 n2 c2, .agg #[.slice A3 n3 c3, .slice A4 n4 c4]] w fun e w' => e = .returned (.bool true) ∧ Below w.heap.size w w' := by
  have hr := heap_alloc2_old w (.cells #[.slice A3 n3 c3, .slice A4 n4 c4] 26) (.cells #[.slice A2 n2 c2, .int .i64 0] 33)
  have hT := tape_new (c := c2) (h2.alloc (.cells #[.slice A3 n3 c3, .slice A4 n4 c4] 26))
  have hB : Below w.heap.size w ((w.alloc (.cells #[.slice A3 n3 c3, .slice A4 n4 c4] 26)).alloc (.cells #[.slice A2 n2 c2, .int .i64 0] 33)) := ((Below.refl _ _).alloc (Nat.le_refl _) _).alloc (by simp) _
  have hz : ((w.alloc (.cells #[.slice A3 n3 c3, .slice A4 n4 c4] 26)).alloc (.cells #[.slice A2 n2 c2, .int .i64 0] 33)).heap.size = w.heap.size + 1 + 1 := by simp
  rw [size_alloc] at hT
  go_enter Try.func4, Try.ntmps4
  go_upto_region 2 with fail
  generalize (w.alloc (.cells #[.slice A3 n3 c3, .slice A4 n4 c4] 26)).alloc (.cells #[.slice A2 n2 c2, .int .i64 0] 33) = wa at *
  have HX := Lib.hid hx
  have HR := Lib.hid hr
  have HRT := Lib.hid (ten_mk (h3.below hB) hc3 (h4.below hB) hc4)
  have HI1 := Lib.hid (h1.below hB)
  have HL1 := Lib.hid h1.lt
  have HB := Lib.hid hB
  have HZ := Lib.hid hz
  have HL3 := Lib.hid h3.lt
  have HL4 := Lib.hid h4.lt
  have HT := Lib.hid hT
  clear hr hB hz h1 h2 h3 h4 hx hT
  go_upto_if 17 with fail
  go_cut [2] (fun v wx => ∃ s' : ByteArray, v = .string s' ∧ s'.size ≤ 60 ∧ wa = wx)
  case first =>
    by_cases h60 : 60 < s.size
    · go_wp2_with fail
      go_meet
      exact ⟨_, rfl, by simp; omega, rfl⟩
    · go_wp2_with fail
      go_meet
      exact ⟨_, rfl, by omega, rfl⟩
  case rest =>
    obtain ⟨s', rfl, hs', rfl⟩ := hcut
    go_wp2_with fail
    refine (tapeShape_any HT.out).mono ?_; rintro e w1 ⟨⟨v, n, xs, rfl, hO, hn, _⟩, hT1, hG1⟩
    obtain ⟨A, c, rfl, hc, hI, hA⟩ := hO.form
    have HG1 := Lib.hid hG1
    have hs1 : wa.heap.size ≤ w1.heap.size := hG1.size
    clear hO hG1 HT hA
    go_wp2_with fail
    refine (tapeTensor_any hT1 hI (by omega)).mono ?_; rintro e w2 ⟨⟨vt, d, rfl, hOT, hdl⟩, hT2, hG2⟩
    have hG := grown_trans HG1.out hG2
    have HI := Lib.hid (HI1.out.grown hG (fun ad he hn hh => by have := HL1.out ad he hn; injection hh with hh; omega))
    have HV := Lib.hid hOT.ten
    have HRx := Lib.hid (HRT.out.read3 hG (fun ad he hn => by have := HL3.out ad he hn; omega) (fun ad he hn => by have := HL4.out ad he hn; omega))
    have HB2 := Lib.hid (below_of_grown HB.out (by have := HZ.out; omega) hG (by omega))
    have hr0 : w2.cell? ⟨w.heap.size, 0, none⟩ = some (.slice A3 n3 c3) := hG.cell (cell0_of HR.out) (by simp)
    have hr1 : w2.cell? ⟨w.heap.size, 1, none⟩ = some (.slice A4 n4 c4) := hG.cell (cell1_of HR.out) (by simp)
    have HR0 := Lib.hid hr0
    have HR1 := Lib.hid hr1
    clear hG hG2 hOT hT2 hdl hI hT1 HB HG1 HI1 HRT HR hr0 hr1
    go_wp2_with fail
    refine (lall_any x s' HX.out HI.out hn1 hc1 (by omega) HV.out).mono ?_; rintro e w3 ⟨rfl, hb3⟩
    replace HI := Lib.hid (HI.out.below hb3)
    replace HRx := Lib.hid (HRx.out.below hb3)
    have hr0 := box_keep hb3 HR0.out
    have hr1 := box_keep hb3 HR1.out
    replace HB2 := Lib.hid (then_ HB2.out hb3)
    clear hb3 HV
    go_wp2_with fail
    refine (lall_any x s' HX.out HI.out hn1 hc1 (by omega) HRx.out).mono ?_; rintro e w4 ⟨rfl, hb4⟩
    replace HB2 := Lib.hid (then_ HB2.out hb4)
    clear hb4 hr0 hr1
    go_wp2_with fail
    refine (l3known_any _).mono ?_; rintro e w5 ⟨rfl, hb5⟩
    replace HB2 := Lib.hid (then_ HB2.out hb5)
    clear hb5
    go_wp2
    go_ret
    exact ⟨rfl, HB2.out⟩
end Go.Proofs.Ytkcpakmfipiglaa
