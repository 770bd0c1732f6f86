/- Contracts of package datum: Tensor, Must, Count. -/
import Derived.Test.YtkcpakmfipiglaaDatum
import Derived.Recover
namespace Go.Proofs.Ytkcpakmfipiglaa
open Go.RowKit

def datHas (o : Option (List Int × List Int)) : Bool := o.isSome
def datS (o : Option (List Int × List Int)) : List Int := match o with | some x => x.1 | none => []
def datD (o : Option (List Int × List Int)) : List Int := match o with | some x => x.2 | none => []
def mustD (o : Option (List Int × List Int)) : List Int := match o with | some x => x.2 | none => [-1]

/-- The tensor that made hands back, as an interface value; nil where there is none. -/
def DMade (w : World) (base : Nat) (r : Value) : Option (List Int × List Int) → Prop
  | none => r = .nilIface
  | some x => ∃ u, r = .iface 26 u ∧ OTen w base u x.1 x.2

theorem OTen.mono {w : World} {base base' : Nat} {v : Value} {s d : List Int} (h : OTen w base v s d) (hb : base' ≤ base) : OTen w base' v s d := by
  obtain ⟨vs, vd, n, m, rfl, h1, h2⟩ := h
  exact ⟨vs, vd, n, m, rfl, h1.mono hb, h2.mono hb⟩
theorem DMade.mono {w : World} {base base' : Nat} {r : Value} {o : Option (List Int × List Int)} (h : DMade w base r o) (hb : base' ≤ base) : DMade w base' r o := by
  cases o with
  | none => exact h
  | some x => obtain ⟨u, e, hu⟩ := h; exact ⟨u, e, hu.mono hb⟩

set_option maxHeartbeats 1600000 in
theorem dSingle_any (w : World) (n : Int) (hn : Fits n) :
    Calls Try.prog 34 #[.int .i64 n] w fun e w' => (∃ u, e = .returned u ∧ OTen w' w.heap.size u [] [n]) ∧ Below w.heap.size w w' := by
  have hz := (Below.refl w.heap.size w).alloc (Nat.le_refl _) (.cells #[.slice none 0 0, .slice none 0 0] 26)
  have hzb := heap_alloc_new w (.cells #[.slice none 0 0, .slice none 0 0] 26)
  have hzs := size_alloc w (.cells #[.slice none 0 0, .slice none 0 0] 26)
  have HN := Lib.hid hn
  clear hn
  go_enter Try.func34, Try.ntmps34
  go_upto_region 1 with fail
  generalize w.alloc (.cells #[.slice none 0 0, .slice none 0 0] 26) = wz at *
  have hx := (Below.refl wz.heap.size wz).alloc (Nat.le_refl _) (.cells #[.int .i64 n] 2)
  have hxb := heap_alloc_new wz (.cells #[.int .i64 n] 2)
  have hz2 := (hx.block w.heap.size (by rw [hzs]; omega)).trans hzb
  have hd0 := cell0_of hz2
  have hd1 := cell1_of hz2
  have f0 := frozen_of_row _ _ 0 _ _ hz2
  have f1 := frozen_of_row _ _ 1 _ _ hz2
  have HZ := Lib.hid (then_ hz hx)
  have HX := Lib.hid hxb
  have HZB := Lib.hid hz2
  have HZS := Lib.hid hzs
  clear hz hzb hzs hx hxb hz2
  go_wp2
  refine ret_ten w.heap.size _ _ Try.results34 rfl (block_set2 HZB.out _ _) rfl ?_
  have hgr := grown_trans (grown_setCell (wz.alloc (.cells #[.int .i64 n] 2)) w.heap.size 0 (.slice none 0 0)) (grown_setCell _ w.heap.size 1 (.slice (some ⟨wz.heap.size, 0, none⟩) 1 1))
  exact ⟨⟨_, rfl, _, _, 0, 1, rfl, OwnS.nil_ _ _ _, ((own_one HX.out (by have := HZS.out; omega) HN.out : OwnS _ (w.heap.size + 1) _ _ _ _).grown hgr (by omega)).mono (by omega)⟩, (HZ.out.setCell (Nat.le_refl _) _).setCell (Nat.le_refl _) _⟩

theorem tenRight_len {s d : List Int} (h : tenRight s d = true) : s.length ≤ 4 ∧ d.length ≤ 4096 := by
  simp only [tenRight, Bool.and_eq_true, decide_eq_true_eq] at h
  have h1 := (Sh.right_iff.1 h.1).1
  have h2 := Sh.size_bd s
  exact ⟨h1, by omega⟩

set_option maxHeartbeats 1600000 in
theorem dOwn_any {w : World} {v : Value} {s d : List Int} (h : Ten w v s d) :
    Calls Try.prog 37 #[v] w fun e w' => (∃ r, e = .returned r ∧ DMade w' w.heap.size r (tenT s d)) ∧ Below w.heap.size w w' := by
  obtain ⟨As, ns, cs, Bd, nd, cd, rfl, hsc, hdc, hS, hD⟩ := h
  have hb0 := (Below.refl w.heap.size w).alloc (Nat.le_refl _) (.cells #[.slice As ns cs, .slice Bd nd cd] 26)
  have hg0 := heap_alloc_new w (.cells #[.slice As ns cs, .slice Bd nd cd] 26)
  have hz0 := size_alloc w (.cells #[.slice As ns cs, .slice Bd nd cd] 26)
  go_enter Try.func37, Try.ntmps37
  go_upto_region 1 with fail
  generalize w.alloc (.cells #[.slice As ns cs, .slice Bd nd cd] 26) = w1 at *
  have HT := Lib.hid (ten_mk (hS.below hb0) hsc (hD.below hb0) hdc)
  have a0 := cell0_of hg0
  have a1 := cell1_of hg0
  have HB := Lib.hid hb0
  have HZ := Lib.hid hz0
  clear hb0 hg0 hz0 hS hD
  go_wp2_with fail
  refine (tRight_any HT.out).mono ?_; rintro e w2 ⟨rfl, hb2⟩
  have HT2 := Lib.hid (HT.out.below hb2)
  have HB2 := Lib.hid (then_ HB.out hb2)
  replace a0 := box_keep hb2 a0
  replace a1 := box_keep hb2 a1
  have hz2 : w.heap.size ≤ w2.heap.size := HB2.out.size
  clear hb2
  cases hr : tenRight s d with
  | false =>
    have HX := Lib.hid (show tenT s d = none by simp [tenT, hr])
    clear hr
    go_wp2
    go_ret
    exact ⟨⟨_, rfl, by rw [HX.out]; rfl⟩, HB2.out⟩
  | true =>
    have HX := Lib.hid (show tenT s d = some (s, d) by simp [tenT, hr])
    have HL := Lib.hid (tenRight_len hr)
    clear hr
    go_wp2_with fail
    refine (tCopy_any HT2.out (by have := HL.out.1; omega) (by have := HL.out.2; omega)).mono ?_; rintro e w3 ⟨⟨u, rfl, hu⟩, hb3⟩
    have HU := Lib.hid hu
    have HB3 := Lib.hid (then_ HB2.out hb3)
    clear hu hb3 a0 a1
    go_wp2
    go_ret
    exact ⟨⟨_, rfl, by rw [HX.out]; exact ⟨u, rfl, HU.out.mono (by omega)⟩⟩, HB3.out⟩

theorem tenT_row {l : List Int} {n : Nat} (h : l.length = n) : tenT [(n : Int)] l = rowT l := by
  subst h
  have hp : Sh.pr [(l.length : Int)] = (l.length : Int) := by simp [Sh.pr]
  unfold tenT rowT
  by_cases h32 : l.length ≤ 32
  · have hr : Sh.right [(l.length : Int)] = true := by
      rw [Sh.right_iff]
      refine ⟨by simp, ?_, by rw [hp]; omega⟩
      intro x hx; simp at hx; subst hx; omega
    have : tenRight [(l.length : Int)] l = true := by
      simp only [tenRight, hr, Sh.size_of hr, hp, Bool.true_and, decide_true]
    rw [if_pos this, if_pos h32]
  · have hr : Sh.right [(l.length : Int)] = false := Sh.not_right_dim (k := 0) rfl (by omega)
    have : tenRight [(l.length : Int)] l = false := by simp [tenRight, hr]
    rw [if_neg (by rw [this]; decide), if_neg h32]

set_option maxHeartbeats 1600000 in
theorem dRow_any {w : World} {A : Option Addr} {n c : Nat} {l : List Int} (h : Ints w A n l) (hc : n ≤ c) :
    Calls Try.prog 36 #[.slice A n c] w fun e w' => (∃ r, e = .returned r ∧ DMade w' w.heap.size r (rowT l)) ∧ Below w.heap.size w w' := by
  have hb := (Below.refl w.heap.size w).alloc (Nat.le_refl _) (.cells #[.int .i64 (n : Int)] 3)
  have hg := heap_alloc_new w (.cells #[.int .i64 (n : Int)] 3)
  have hn := h.le
  have hT := ten_mk (own_one (base := 0) hg (Nat.zero_le _) ⟨by omega, by omega⟩).ints_of (Nat.le_refl 1) (h.below hb) hc
  have HE := Lib.hid (tenT_row h.len)
  have HB := Lib.hid hb
  have HT := Lib.hid hT
  have hz : w.heap.size ≤ (w.alloc (.cells #[.int .i64 (n : Int)] 3)).heap.size := hb.size
  have HZ := Lib.hid hz
  clear hb hg hT h hz
  go_enter Try.func36, Try.ntmps36
  go_wp2_with fail
  refine (dOwn_any HT.out).mono ?_; rintro e w3 ⟨⟨r, rfl, hu⟩, hb3⟩
  have HU := Lib.hid hu
  have HB3 := Lib.hid (then_ HB.out hb3)
  clear hu hb3
  go_wp2
  go_ret
  rw [HE.out] at HU
  exact ⟨⟨_, rfl, HU.out.mono HZ.out⟩, HB3.out⟩

theorem rowT_long {l : List Int} (h : 32 < l.length) : rowT l = none := by simp [rowT]; omega

set_option maxHeartbeats 1600000 in
theorem dRunes_any (w : World) (s : ByteArray) (hs : s.size ≤ 17592186044000) :
    Calls Try.prog 38 #[.string s] w fun e w' => (∃ v n xs, e = .returned v ∧ OwnS w' w.heap.size 2 v n xs ∧ n ≤ 33 ∧ rowT xs = rowT (runesOf s)) ∧ Below w.heap.size w w' := by
  have hi := World.iter_heap w s 0
  have hb : Below w.heap.size w (w.iter s 0) := (Below.refl _ _).alloc (Nat.le_refl _) _
  have hz : (w.iter s 0).heap.size = w.heap.size + 1 := by simp [World.iter]
  have HS := Lib.hid hs
  clear hs
  go_enter Try.func38, Try.ntmps38
  go_wp2_with fail
  generalize w.iter s 0 = w1 at *
  go_loopw [3] (fun v wr => ∃ (pos n : Nat) (xs : List Int), wr.heap[w.heap.size]? = some (.stringIter s pos) ∧ OwnS wr (w.heap.size + 1) 2 v n xs ∧ xs ++ runesAt s s.size pos = runesOf s ∧ n ≤ 33 ∧ Below w.heap.size w wr) (fun _ w' => s.size - w'.iterPos w.heap.size)
  case atStart => exact ⟨0, 0, [], hi, OwnS.nil_ _ _ _, rfl, by omega, hb⟩
  case round =>
    clear hi hb hz
    obtain ⟨pos, n, xs, hi, hO, hx, hn, hB⟩ := hrel
    have HB := Lib.hid hB
    have HI := Lib.hid hi
    have hkl : w.heap.size < wr.heap.size := by
      rcases Nat.lt_or_ge w.heap.size wr.heap.size with hl | hl
      · exact hl
      · rw [Array.getElem?_eq_none hl] at hi; cases hi
    have hxl := hO.len
    by_cases hlt : pos < s.size
    · have hnx := fun ty => run_next_at (P := Try.prog) hi hlt ty
      have hg := iterAt_grown (w := wr) (s := s) (k := w.heap.size) (pos := pos + (Utf8.decode s pos).2)
      have hi2 := iterAt_heap (w := wr) (s := s) (pos := pos + (Utf8.decode s pos).2) hkl
      have hO2 := hO.grown hg (by omega)
      have hB2 := below_of_grown hB (by omega) hg (Nat.le_refl _)
      have hw := decode_width s pos hlt
      have hf := rune_fits s pos
      have hst := runesAt_step s hlt
      generalize iterAt_ wr w.heap.size s (pos + (Utf8.decode s pos).2) = w2 at *
      have HI2 := Lib.hid hi2
      have HO2 := Lib.hid hO2
      have HB2 := Lib.hid hB2
      have HST := Lib.hid hst
      have HX := Lib.hid hx
      have HXL := Lib.hid hxl
      have hz2 : w.heap.size < w2.heap.size := by have := hg.size; omega
      clear hi hg hi2 hO hO2 hB2 hst hx hB hxl
      generalize hdr : (Utf8.decode s pos).1 = dr at *
      generalize hdw : (Utf8.decode s pos).2 = dw at *
      clear hdr hdw
      obtain ⟨hf1, hf2⟩ := hf
      by_cases h33 : 32 < n
      · obtain ⟨Av, cv, rfl, _, _, _⟩ := HO2.out.form
        go_wp2
        go_ret
        exact ⟨⟨_, n, xs, rfl, HO2.out.mono (by omega), by omega, by rw [rowT_long (by rw [HXL.out]; omega), rowT_long (by rw [← HX.out, List.length_append, HXL.out]; omega)]⟩, HB2.out⟩
      · obtain ⟨Av, cv, rfl, _, _, _⟩ := HO2.out.form
        go_wp2_with (at_builtin; refine wpList_append_int rfl _ _ 23 2 rfl Try.underlying23 Try.infoI64 (w.heap.size + 1) _ n xs rfl HO2.out ?c1 (dr : Int) ?c2 _ rfl ?c3 ?_)
        case c1 => omega
        case c2 => exact ⟨by omega, by omega⟩
        case c3 => omega
        intro v' w3 hO3 hB3 hg3
        have hi3 := (hB3.block w.heap.size (by omega)).trans HI2.out
        have hB4 := HB2.out.trans (hB3.mono (by omega))
        have HI3 := Lib.hid hi3
        clear hi3 hB3 hg3 hnx
        go_wp2
        go_roundw
        case rel => exact ⟨pos + dw, n + 1, xs ++ [(dr : Int)], HI3.out, hO3, by rw [← HX.out, HST.out]; simp, by omega, hB4⟩
        case measure => rw [iterPos_at HI3.out, iterPos_at HI.out]; omega
    · have hnx := fun ty => run_next_over (P := Try.prog) hi hlt ty
      have hxs : xs = runesOf s := by rw [← hx, runesAt_end s hlt, List.append_nil]
      have HXS := Lib.hid hxs
      have HO := Lib.hid hO
      clear hi hxs hx hO hB
      go_wp2
      go_ret
      exact ⟨⟨_, n, xs, rfl, HO.out.mono (by omega), hn, by rw [HXS.out]⟩, HB.out⟩

set_option maxHeartbeats 3200000 in
theorem dMade_any {w : World} {v : Value} {k : Int} {o : Option (List Int × List Int)} (h : Datum w v k o) (hs : Small v) :
    Calls Try.prog 28 #[v] w fun e w' => (∃ r, e = .returned r ∧ DMade w' w.heap.size r o) ∧ Below w.heap.size w w' := by
  have H0 := Lib.hid h
  have HSM := Lib.hid hs
  clear hs
  cases h with
  | whole64 n h =>
    go_enter Try.func28, Try.ntmps28
    go_wp2_with fail
    refine (dkind_any H0.out).mono ?_; rintro e w1 ⟨rfl, hb1⟩
    replace H0 := Lib.hid (H0.out.below hb1)
    have HB := Lib.hid hb1
    have hz1 : w.heap.size ≤ w1.heap.size := hb1.size
    clear hb1
    go_wp2_with fail
    refine (dWhole_any H0.out).mono ?_; rintro e w2 ⟨⟨n1, b1, rfl, hb, hn⟩, rfl⟩
    obtain rfl : b1 = true := hb
    obtain ⟨ho, hF⟩ := hn rfl
    have HO := Lib.hid ho
    have HF := Lib.hid hF
    clear ho hF hn
    go_wp2_with fail
    refine (dSingle_any _ n1 HF.out).mono ?_; rintro e w3 ⟨⟨u, rfl, hu⟩, hb3⟩
    have HU := Lib.hid hu
    have HB3 := Lib.hid (then_ HB.out hb3)
    clear hu hb3
    go_wp2
    go_ret
    exact ⟨⟨_, rfl, by rw [HO.out]; exact ⟨u, rfl, HU.out.mono (by omega)⟩⟩, HB3.out⟩
  | whole n h =>
    go_enter Try.func28, Try.ntmps28
    go_wp2_with fail
    refine (dkind_any H0.out).mono ?_; rintro e w1 ⟨rfl, hb1⟩
    replace H0 := Lib.hid (H0.out.below hb1)
    have HB := Lib.hid hb1
    have hz1 : w.heap.size ≤ w1.heap.size := hb1.size
    clear hb1
    go_wp2_with fail
    refine (dWhole_any H0.out).mono ?_; rintro e w2 ⟨⟨n1, b1, rfl, hb, hn⟩, rfl⟩
    obtain rfl : b1 = true := hb
    obtain ⟨ho, hF⟩ := hn rfl
    have HO := Lib.hid ho
    have HF := Lib.hid hF
    clear ho hF hn
    go_wp2_with fail
    refine (dSingle_any _ n1 HF.out).mono ?_; rintro e w3 ⟨⟨u, rfl, hu⟩, hb3⟩
    have HU := Lib.hid hu
    have HB3 := Lib.hid (then_ HB.out hb3)
    clear hu hb3
    go_wp2
    go_ret
    exact ⟨⟨_, rfl, by rw [HO.out]; exact ⟨u, rfl, HU.out.mono (by omega)⟩⟩, HB3.out⟩
  | @row A n c l h hn hc =>
    have a0 := as_row1 (.slice A n c)
    go_enter Try.func28, Try.ntmps28
    go_wp2_with fail
    refine (dkind_any H0.out).mono ?_; rintro e w1 ⟨rfl, hb1⟩
    replace H0 := Lib.hid (H0.out.below hb1)
    have HB := Lib.hid hb1
    have hz1 : w.heap.size ≤ w1.heap.size := hb1.size
    have HI := Lib.hid (h.below hb1)
    clear hb1 h
    go_wp2_with fail
    refine (dRow_any HI.out hc).mono ?_; rintro e w3 ⟨⟨r, rfl, hu⟩, hb3⟩
    have HU := Lib.hid hu
    have HB3 := Lib.hid (then_ HB.out hb3)
    clear hu hb3
    go_wp2
    go_ret
    exact ⟨⟨_, rfl, HU.out.mono (by omega)⟩, HB3.out⟩
  | text s =>
    have a0 := as_text1 (.string s)
    go_enter Try.func28, Try.ntmps28
    go_wp2_with fail
    refine (dkind_any H0.out).mono ?_; rintro e w1 ⟨rfl, hb1⟩
    replace H0 := Lib.hid (H0.out.below hb1)
    have HB := Lib.hid hb1
    have hz1 : w.heap.size ≤ w1.heap.size := hb1.size
    clear hb1
    go_wp2_with fail
    refine (dRunes_any _ s (HSM.out s rfl)).mono ?_; rintro e w2 ⟨⟨v2, n2, xs, rfl, hO, hn2, hx⟩, hb2⟩
    obtain ⟨A, c, rfl, hc, hI, _⟩ := hO.form
    have HI := Lib.hid hI
    have HB2 := Lib.hid (then_ HB.out hb2)
    have HX := Lib.hid hx
    have hz2 : w1.heap.size ≤ w2.heap.size := hb2.size
    clear hO hI hb2 hx
    go_wp2_with fail
    refine (dRow_any HI.out hc).mono ?_; rintro e w3 ⟨⟨r, rfl, hu⟩, hb3⟩
    rw [HX.out] at hu
    have HU := Lib.hid hu
    have HB3 := Lib.hid (then_ HB2.out hb3)
    clear hu hb3
    go_wp2
    go_ret
    exact ⟨⟨_, rfl, HU.out.mono (by omega)⟩, HB3.out⟩
  | @full v s d h =>
    go_enter Try.func28, Try.ntmps28
    go_wp2_with fail
    refine (dkind_any H0.out).mono ?_; rintro e w1 ⟨rfl, hb1⟩
    replace H0 := Lib.hid (H0.out.below hb1)
    have HB := Lib.hid hb1
    have hz1 : w.heap.size ≤ w1.heap.size := hb1.size
    clear hb1
    go_wp2_with fail
    refine (dFull_any H0.out).mono ?_; rintro e w2 ⟨⟨u, b2, s2, d2, rfl, hb2, hT, ho⟩, hw⟩
    have HO := Lib.hid (ho rfl)
    clear ho hb2
    obtain ⟨An, nn, cn, Bn, mn, en, rfl, hnc, hme, hS, hD⟩ := hT
    have hx := (Below.refl w2.heap.size w2).alloc (Nat.le_refl _) (.cells #[.slice An nn cn, .slice Bn mn en] 26)
    have hg2 := heap_alloc_new w2 (.cells #[.slice An nn cn, .slice Bn mn en] 26)
    have HT := Lib.hid (ten_mk (hS.below hx) hnc (hD.below hx) hme)
    have HB2 := Lib.hid (then_ (then_ HB.out hw) hx)
    clear hS hD hx hw
    go_upto_region 9 with fail
    generalize w2.alloc (.cells #[.slice An nn cn, .slice Bn mn en] 26) = w3 at *
    have e0 := cell0_of hg2
    have e1 := cell1_of hg2
    clear hg2
    have hz2 : w.heap.size ≤ w3.heap.size := HB2.out.size
    go_wp2_with fail
    refine (dOwn_any HT.out).mono ?_; rintro e w4 ⟨⟨r, rfl, hu⟩, hb3⟩
    rw [← HO.out] at hu
    have HU := Lib.hid hu
    have HB3 := Lib.hid (then_ HB2.out hb3)
    clear hu hb3 e0 e1
    go_wp2
    go_ret
    exact ⟨⟨_, rfl, HU.out.mono (by omega)⟩, HB3.out⟩
  | @ptr g x y s d hg h =>
    go_enter Try.func28, Try.ntmps28
    go_wp2_with fail
    refine (dkind_any H0.out).mono ?_; rintro e w1 ⟨rfl, hb1⟩
    replace H0 := Lib.hid (H0.out.below hb1)
    have HB := Lib.hid hb1
    have hz1 : w.heap.size ≤ w1.heap.size := hb1.size
    clear hb1
    go_wp2_with fail
    refine (dFull_any H0.out).mono ?_; rintro e w2 ⟨⟨u, b2, s2, d2, rfl, hb2, hT, ho⟩, hw⟩
    have HO := Lib.hid (ho rfl)
    clear ho hb2
    obtain ⟨An, nn, cn, Bn, mn, en, rfl, hnc, hme, hS, hD⟩ := hT
    have hx := (Below.refl w2.heap.size w2).alloc (Nat.le_refl _) (.cells #[.slice An nn cn, .slice Bn mn en] 26)
    have hg2 := heap_alloc_new w2 (.cells #[.slice An nn cn, .slice Bn mn en] 26)
    have HT := Lib.hid (ten_mk (hS.below hx) hnc (hD.below hx) hme)
    have HB2 := Lib.hid (then_ (then_ HB.out hw) hx)
    clear hS hD hx hw
    go_upto_region 9 with fail
    generalize w2.alloc (.cells #[.slice An nn cn, .slice Bn mn en] 26) = w3 at *
    have e0 := cell0_of hg2
    have e1 := cell1_of hg2
    clear hg2
    have hz2 : w.heap.size ≤ w3.heap.size := HB2.out.size
    go_wp2_with fail
    refine (dOwn_any HT.out).mono ?_; rintro e w4 ⟨⟨r, rfl, hu⟩, hb3⟩
    rw [← HO.out] at hu
    have HU := Lib.hid hu
    have HB3 := Lib.hid (then_ HB2.out hb3)
    clear hu hb3 e0 e1
    go_wp2
    go_ret
    exact ⟨⟨_, rfl, HU.out.mono (by omega)⟩, HB3.out⟩
  | @many A n c =>
    go_enter Try.func28, Try.ntmps28
    go_wp2_with fail
    refine (dkind_any H0.out).mono ?_; rintro e w1 ⟨rfl, hb1⟩
    replace H0 := Lib.hid (H0.out.below hb1)
    have HB := Lib.hid hb1
    have hz1 : w.heap.size ≤ w1.heap.size := hb1.size
    clear hb1
    go_wp2_with fail
    go_wp2
    go_ret
    exact ⟨⟨_, rfl, rfl⟩, HB.out⟩
  | nilPtr =>
    go_enter Try.func28, Try.ntmps28
    go_wp2_with fail
    refine (dkind_any H0.out).mono ?_; rintro e w1 ⟨rfl, hb1⟩
    replace H0 := Lib.hid (H0.out.below hb1)
    have HB := Lib.hid hb1
    have hz1 : w.heap.size ≤ w1.heap.size := hb1.size
    clear hb1
    go_wp2_with fail
    go_wp2
    go_ret
    exact ⟨⟨_, rfl, rfl⟩, HB.out⟩
  | nil =>
    go_enter Try.func28, Try.ntmps28
    go_wp2_with fail
    refine (dkind_any H0.out).mono ?_; rintro e w1 ⟨rfl, hb1⟩
    replace H0 := Lib.hid (H0.out.below hb1)
    have HB := Lib.hid hb1
    have hz1 : w.heap.size ≤ w1.heap.size := hb1.size
    clear hb1
    go_wp2_with fail
    go_wp2
    go_ret
    exact ⟨⟨_, rfl, rfl⟩, HB.out⟩
  | @other t v h =>
    go_enter Try.func28, Try.ntmps28
    go_wp2_with fail
    refine (dkind_any H0.out).mono ?_; rintro e w1 ⟨rfl, hb1⟩
    replace H0 := Lib.hid (H0.out.below hb1)
    have HB := Lib.hid hb1
    have hz1 : w.heap.size ≤ w1.heap.size := hb1.size
    clear hb1
    go_wp2_with fail
    go_wp2
    go_ret
    exact ⟨⟨_, rfl, rfl⟩, HB.out⟩

theorem DMade.tensor {w : World} {base : Nat} {r : Value} {o : Option (List Int × List Int)} (h : DMade w base r o) :
    ∃ u, OTen w base u (datS o) (datD o) ∧ ∀ W, (Instr.typeAssert r 20 26 true).run Try.prog W = .ok (.tuple #[u, .bool (datHas o)]) W := by
  cases o with
  | none => obtain rfl : r = .nilIface := h; exact ⟨_, ⟨_, _, 0, 0, rfl, OwnS.nil_ _ _ _, OwnS.nil_ _ _ _⟩, as_ten_nil⟩
  | some x => obtain ⟨u, rfl, hu⟩ := h; exact ⟨u, hu, as_ten_yes u⟩

set_option maxHeartbeats 1600000 in
theorem dTensor_any {w : World} {v : Value} {k : Int} {o : Option (List Int × List Int)} (h : Datum w v k o) (hs : Small v) :
    Calls Try.prog 14 #[v] w fun e w' => (∃ u, e = .returned (.tuple #[u, .bool (datHas o)]) ∧ OTen w' w.heap.size u (datS o) (datD o)) ∧ Below w.heap.size w w' := by
  have hz := (Below.refl w.heap.size w).alloc (Nat.le_refl _) (.cells #[.slice none 0 0, .slice none 0 0] 26)
  have hzb := heap_alloc_new w (.cells #[.slice none 0 0, .slice none 0 0] 26)
  have hzs := size_alloc w (.cells #[.slice none 0 0, .slice none 0 0] 26)
  go_enter Try.func14, Try.ntmps14
  go_upto_region 1 with fail
  generalize w.alloc (.cells #[.slice none 0 0, .slice none 0 0] 26) = wz at *
  have HD := Lib.hid (h.below hz)
  have HSM := Lib.hid hs
  have HZ := Lib.hid hz
  have HZB := Lib.hid hzb
  have HZS := Lib.hid hzs
  clear hz hzb hzs h hs
  go_wp2_with fail
  refine (dMade_any HD.out HSM.out).mono ?_; rintro e w1 ⟨⟨r, rfl, hr⟩, hb1⟩
  obtain ⟨u, hu, hta⟩ := hr.tensor
  obtain ⟨vs, vd, n, m, rfl, hvs, hvd⟩ := hu
  obtain ⟨A, c, rfl, _, _, _⟩ := hvs.form
  obtain ⟨B, e, rfl, _, _, _⟩ := hvd.form
  obtain ⟨bb, hbb⟩ : ∃ b, datHas o = b := ⟨_, rfl⟩
  rw [hbb] at hta
  have hx := (Below.refl w1.heap.size w1).alloc (Nat.le_refl _) (.cells #[.slice A n c, .slice B m e] 26)
  have hxb := heap_alloc_new w1 (.cells #[.slice A n c, .slice B m e] 26)
  have hz2 := ((then_ hb1 hx).block w.heap.size (by have := HZS.out; omega)).trans HZB.out
  have HVS := Lib.hid (hvs.below hx)
  have HVD := Lib.hid (hvd.below hx)
  have HBB := Lib.hid hbb
  have HB := Lib.hid (then_ (then_ HZ.out hb1) hx)
  clear hr hb1 hx hvs hvd hbb
  go_upto_region 2 with fail
  generalize w1.alloc (.cells #[.slice A n c, .slice B m e] 26) = wy at *
  have hd0 := cell0_of hz2
  have hd1 := cell1_of hz2
  have f0 := frozen_of_row _ _ 0 _ _ hz2
  have f1 := frozen_of_row _ _ 1 _ _ hz2
  have e0 := cell0_of hxb
  have e1 := cell1_of hxb
  have HZ2 := Lib.hid hz2
  clear hz2 hxb hta
  go_wp2
  rw [HBB.out]
  refine ret_ten2 w.heap.size _ _ (.bool bb) Try.results14 rfl rfl (block_set2 HZ2.out _ _) rfl ?_
  have hgr := grown_trans (grown_setCell wy w.heap.size 0 (.slice A n c)) (grown_setCell _ w.heap.size 1 (.slice B m e))
  exact ⟨⟨_, rfl, _, _, n, m, rfl, (HVS.out.grown hgr (by have := HZS.out; omega)).mono (by have := HZS.out; omega), (HVD.out.grown hgr (by have := HZS.out; omega)).mono (by have := HZS.out; omega)⟩, (HB.out.setCell (Nat.le_refl _) _).setCell (Nat.le_refl _) _⟩

theorem as_ten1_nil (W : World) : (Instr.typeAssert .nilIface 20 26 false).run Try.prog W = .halt (.panic (.iface 15 (.pointer (some ⟨W.heap.size, 0, none⟩)))) (W.alloc (.cells #[.pointer (some ⟨Try.prog.globals.size, 20, none⟩), .pointer none, .pointer (some ⟨Try.prog.globals.size, 26, none⟩), .string ⟨#[]⟩] 82)) := by kernel_rfl

set_option maxHeartbeats 1600000 in
theorem dCatch_panicking {w : World} {g : Nat} {x y : Value} (u : TypeId) (pv : Value) (older : List PanicEntry) (hg : w.heap[g]? = some (.cells #[x, y] 26 (0, 0))) :
    CallsD Try.prog 33 #[.pointer (some ⟨g, 0, none⟩)] (.panicking ({ v := .iface u pv, recovered := false } :: older)) w fun e u' w' =>
      e = .returned (.tuple #[]) ∧ u' = .panicking ({ v := .iface u pv, recovered := true } :: older) ∧ w.grownBy w' (some g) ∧ ∃ vs vd, w'.heap[g]? = some (.cells #[vs, vd] 26 (0, 0)) ∧ OTen w' w.heap.size (.agg #[vs, vd]) [] [-1] := by
  have hgl := block_lt_of_cell (cell0_of hg)
  have H1 := Lib.hid (dSingle_any w (-1) ⟨by omega, by omega⟩)
  refine callsD_of_wpS Try.func33 rfl fun c₀ cs hu => ?_
  apply wpS_seq
  apply wpS_region
  simp [wpOpsS, go_sem, recoverD, hu, Try.ntmps33, Exit.thenS]
  refine wpS_cond (t := true) (by simp [Act.eval, Array.replicate]) ?_
  simp only [if_true]
  simp only [Array.replicate_succ, Array.replicate_zero, List.push_toArray, List.setIfInBounds_toArray, List.set_cons_zero, List.set_cons_succ, List.append_toArray, List.nil_append, List.cons_append]
  refine wpS_of_wp ?_
  have HG := Lib.hid hg
  clear hg
  go_wp2_with fail
  refine H1.out.mono ?_; rintro e w1 ⟨⟨v, rfl, hO⟩, hb⟩
  obtain ⟨vs, vd, n, m, rfl, hvs, hvd⟩ := hO
  obtain ⟨A, c, rfl, _, _, _⟩ := hvs.form
  obtain ⟨B, e, rfl, _, _, _⟩ := hvd.form
  have hg2 := (hb.block g hgl).trans HG.out
  have hd0 := cell0_of hg2
  have hd1 := cell1_of hg2
  have f0 := frozen_of_row _ _ 0 _ _ hg2
  have f1 := frozen_of_row _ _ 1 _ _ hg2
  have HG2 := Lib.hid hg2
  have HVS := Lib.hid hvs
  have HVD := Lib.hid hvd
  have HB := Lib.hid hb
  clear hg2 hvs hvd hb
  go_wp2
  refine ⟨rfl, _, rfl, _, results_none rfl _ _ _, rfl, rfl, ?_, .slice A n c, .slice B m e, block_set2 HG2.out _ _, ?_⟩
  · exact grown_trans (grown_of_below HB.out (some g)) (grown_trans (grown_setCell w1 g 0 _) (grown_setCell _ g 1 _))
  · have hgr := grown_trans (grown_setCell w1 g 0 (.slice A n c)) (grown_setCell _ g 1 (.slice B m e))
    exact ⟨_, _, n, m, rfl, HVS.out.grown hgr hgl, HVD.out.grown hgr hgl⟩
theorem dCatch_idle (g : Nat) (w : World) :
    CallsD Try.prog 33 #[.pointer (some ⟨g, 0, none⟩)] .returning w fun e u' w' => e = .returned (.tuple #[]) ∧ u' = .returning ∧ w' = w := by
  refine callsD_of_wpS Try.func33 rfl fun c₀ cs hu => ?_
  apply wpS_seq
  apply wpS_region
  simp [wpOpsS, go_sem, recoverD, hu, Try.ntmps33, Exit.thenS]
  refine wpS_cond (t := false) (by simp [Act.eval, Array.replicate]) ?_
  simp only [Bool.false_eq_true, if_false]
  refine wpS_of_wp (wp_skip ?_)
  cases c₀
  simp_all [bodyPostS, results, Try.results33]

set_option maxHeartbeats 3200000 in
theorem dMust_any {w : World} {v : Value} {k : Int} {o : Option (List Int × List Int)} (h : Datum w v k o) (hs : Small v) :
    Calls Try.prog 25 #[v] w fun e w' => (∃ u, e = .returned u ∧ OTen w' w.heap.size u (datS o) (mustD o)) ∧ Below w.heap.size w w' := by
  have hmf : ∀ (fn : Fn) (first cap : Array Value) (w : World), (Instr.makeFunc fn first cap).run Try.prog w = .ok (.func fn first cap) w := fun _ _ _ _ => rfl
  have hz := (Below.refl w.heap.size w).alloc (Nat.le_refl _) (.cells #[.slice none 0 0, .slice none 0 0] 26)
  have hzb := heap_alloc_new w (.cells #[.slice none 0 0, .slice none 0 0] 26)
  have hzs := size_alloc w (.cells #[.slice none 0 0, .slice none 0 0] 26)
  go_enter_defers Try.func25, Try.ntmps25
  go_upto_region 1 with fail
  generalize w.alloc (.cells #[.slice none 0 0, .slice none 0 0] 26) = wz at *
  have HD := Lib.hid (h.below hz)
  have HSM := Lib.hid hs
  have HZ := Lib.hid hz
  have HZB := Lib.hid hzb
  have HZS := Lib.hid hzs
  clear hz hzb hzs h hs
  go_wp2_with fail
  refine (dMade_any HD.out HSM.out).mono ?_; rintro e w1 ⟨⟨r, rfl, hr⟩, hb1⟩
  have hz1 := (hb1.block w.heap.size (by have := HZS.out; omega)).trans HZB.out
  have HB1 := Lib.hid (then_ HZ.out hb1)
  have hzl : w.heap.size < w1.heap.size := by have := hb1.size; have := HZS.out; omega
  clear hb1
  cases o with
  | none =>
    obtain rfl : r = .nilIface := hr
    have ht := as_ten1_nil w1
    have hb2 := (Below.refl w1.heap.size w1).alloc (Nat.le_refl _) (.cells #[.pointer (some ⟨Try.prog.globals.size, 20, none⟩), .pointer none, .pointer (some ⟨Try.prog.globals.size, 26, none⟩), .string ⟨#[]⟩] 82)
    have hz2 := (hb2.block w.heap.size hzl).trans hz1
    have HB2 := Lib.hid (then_ HB1.out hb2)
    have HZ2 := Lib.hid hz2
    have hzl2 : w1.heap.size ≤ (w1.alloc (.cells #[.pointer (some ⟨Try.prog.globals.size, 20, none⟩), .pointer none, .pointer (some ⟨Try.prog.globals.size, 26, none⟩), .string ⟨#[]⟩] 82)).heap.size := hb2.size
    have HZL := Lib.hid hzl2
    clear hb2 hz2 hz1 hzl2
    go_wp2
    refine leaves_cons (f := 33) (args := #[.pointer (some ⟨w.heap.size, 0, none⟩)]) (by simp) (by simp [go_sem]) ?_
    refine (dCatch_panicking 15 _ [] HZ2.out).mono ?_
    rintro e u' w3 ⟨rfl, rfl, hgr, vs, vd, hg3, hO3⟩
    exact ⟨_, results_cell_row Try.results25 _ _ w.heap.size _ _ _ _ rfl hg3 Try.underlying26 rfl Try.sizeTen, ⟨_, rfl, hO3.mono (by have := HZL.out; omega)⟩, below_of_grown HB2.out (by have := HZL.out; omega) hgr (Nat.le_refl _)⟩
  | some x =>
    obtain ⟨u, rfl, hu⟩ := hr
    have ht := as_ten1 u w1
    obtain ⟨vs, vd, n, m, rfl, hvs, hvd⟩ := hu
    obtain ⟨A, c, rfl, _, _, _⟩ := hvs.form
    obtain ⟨B, e, rfl, _, _, _⟩ := hvd.form
    have hd0 := cell0_of hz1
    have hd1 := cell1_of hz1
    have f0 := frozen_of_row _ _ 0 _ _ hz1
    have f1 := frozen_of_row _ _ 1 _ _ hz1
    have HZ1 := Lib.hid hz1
    have HVS := Lib.hid hvs
    have HVD := Lib.hid hvd
    clear hz1 hvs hvd
    go_wp2
    refine leaves_cons (f := 33) (args := #[.pointer (some ⟨w.heap.size, 0, none⟩)]) (by simp) (by simp [go_sem]) ?_
    refine (dCatch_idle w.heap.size _).mono ?_
    rintro e u' w3 ⟨rfl, rfl, rfl⟩
    have hgr := grown_trans (grown_setCell w1 w.heap.size 0 (.slice A n c)) (grown_setCell _ w.heap.size 1 (.slice B m e))
    exact ⟨_, results_cell_row Try.results25 _ _ w.heap.size _ _ _ _ rfl (block_set2 HZ1.out _ _) Try.underlying26 rfl Try.sizeTen, ⟨_, rfl, _, _, n, m, rfl, (HVS.out.grown hgr (by have := HZS.out; omega)).mono (by have := HZS.out; omega), (HVD.out.grown hgr (by have := HZS.out; omega)).mono (by have := HZS.out; omega)⟩, (HB1.out.setCell (Nat.le_refl _) _).setCell (Nat.le_refl _) _⟩

/-- Block g holds n values; ks: their kinds. -/
def Kinds (w : World) (ad : Option Addr) (n : Nat) (ks : List Int) : Prop :=
  ks.length = n ∧ n ≤ 17592186044000 ∧ ∀ j k, ks[j]? = some k → ∃ a v o, ad = some a ∧ a.block < w.heap.size ∧ w.cell? (a.add j) = some v ∧ Datum w v k o
def countK (ks : List Int) (k : Int) : Int := (ks.filter (· == k)).length
def countsOf (ks : List Int) : List Int := [countK ks 0, countK ks 1, countK ks 2, countK ks 3, countK ks 4, countK ks 5]

theorem countK_snoc (ks : List Int) (k x : Int) : countK (ks ++ [x]) k = countK ks k + (if x = k then 1 else 0) := by
  unfold countK
  rw [List.filter_append]
  by_cases h : x = k <;> simp [h]
theorem countK_bd (ks : List Int) (k : Int) : 0 ≤ countK ks k ∧ countK ks k ≤ ks.length := by
  unfold countK
  have := List.length_filter_le (· == k) ks
  omega
theorem datum_kind {w : World} {v : Value} {k : Int} {o : Option (List Int × List Int)} (h : Datum w v k o) : 0 ≤ k ∧ k ≤ 5 := by
  cases h <;> omega
theorem countsOf_at {ks : List Int} {k : Int} (h : 0 ≤ k ∧ k ≤ 5) : (countsOf ks)[k.toNat]? = some (countK ks k) := by
  have : k = 0 ∨ k = 1 ∨ k = 2 ∨ k = 3 ∨ k = 4 ∨ k = 5 := by omega
  rcases this with rfl | rfl | rfl | rfl | rfl | rfl <;> rfl
theorem countsOf_set {ks : List Int} {k : Int} (h : 0 ≤ k ∧ k ≤ 5) : (countsOf ks).set k.toNat (countK ks k + 1) = countsOf (ks ++ [k]) := by
  have : k = 0 ∨ k = 1 ∨ k = 2 ∨ k = 3 ∨ k = 4 ∨ k = 5 := by omega
  rcases this with rfl | rfl | rfl | rfl | rfl | rfl <;> simp [countsOf, countK_snoc]

set_option maxHeartbeats 3200000 in
theorem dCount_any {w : World} {A : Option Addr} {n c : Nat} {ks : List Int} (h : Kinds w A n ks) :
    Calls Try.prog 10 #[.slice A n c] w fun e w' => (∃ u, e = .returned u ∧ OwnS w' w.heap.size 3 u 6 [countK ks 0, countK ks 1, countK ks 2, countK ks 3, countK ks 4, countK ks 5]) ∧ Below w.heap.size w w' := by
  obtain ⟨hl, hn, hK⟩ := h
  have hm1 : ∀ w, (Instr.makeSlice 24 (.int .i64 6) (.int .i64 6)).run Try.prog w = .ok (.slice (some ⟨w.heap.size, 0, none⟩) 6 6) (w.alloc (.cells (noughts 6) 3)) := fun w => run_make_noughts Try.underlying24 Try.infoInt (n := 6) (by omega) w
  have hO := own_noughts (n := 6) (base := w.heap.size) (w := w.alloc (.cells (noughts 6) 3)) (heap_alloc_new w _) (Nat.le_refl _) (by omega)
  have hB := (Below.refl w.heap.size w).alloc (Nat.le_refl _) (.cells (noughts 6) 3)
  have HK := Lib.hid hK
  have HL := Lib.hid hl
  clear hK hl
  go_enter Try.func10, Try.ntmps10
  go_wp2_with fail
  generalize w.alloc (.cells (noughts 6) 3) = w1 at *
  go_loopw [9] (fun kv wr => ∃ j : Nat, kv = .int .i64 j ∧ j ≤ n ∧ Own wr w.heap.size 3 w.heap.size 6 6 (countsOf (ks.take j)) ∧ Below w.heap.size w wr) (fun kv _ => n - (intOf kv).toNat)
  case atStart => exact ⟨0, rfl, by omega, hO, hB⟩
  case round =>
    clear hO hB
    obtain ⟨j, rfl, hj, hO, hB⟩ := hrel
    have HB := Lib.hid hB
    have hsz : w.heap.size ≤ wr.heap.size := hB.size
    by_cases hlt : j < n
    · obtain ⟨k, hk⟩ : ∃ k, ks[j]? = some k := ⟨_, List.getElem?_eq_getElem (by rw [HL.out]; exact hlt)⟩
      obtain ⟨ad, v, o, rfl, hbl, hcv, hD⟩ := HK.out j k hk
      have hcv2 := (hB.cell (p := ad.add j) (by rw [block_of_add]; exact hbl)).trans hcv
      have HD := Lib.hid (hD.below hB)
      have hkb := datum_kind hD
      have HK1 := Lib.hid hk
      have HO := Lib.hid hO
      clear hcv hD hk hO hB hbl
      go_wp2_with fail
      refine (dkind_any HD.out).mono ?_; rintro e w2 ⟨rfl, hb2⟩
      have hO2 := HO.out.below hb2
      have HB2 := Lib.hid (then_ HB.out hb2)
      clear hb2 hcv2
      obtain ⟨kn, rfl⟩ : ∃ kn : Nat, k = kn := ⟨k.toNat, by omega⟩
      have hkn : (kn : Int) < 6 := by omega
      have hkn' : kn < 6 := by omega
      have hat : (countsOf (ks.take j))[kn]? = some (countK (ks.take j) kn) := countsOf_at (k := kn) hkb
      have hset : (countsOf (ks.take j)).set kn (countK (ks.take j) kn + 1) = countsOf (ks.take j ++ [(kn : Int)]) := countsOf_set (k := kn) hkb
      have hcc := hO2.cell hat
      have hff := hO2.frozen kn
      have hbd := countK_bd (ks.take j) kn
      have htl : (ks.take j).length ≤ n := by rw [List.length_take, HL.out]; omega
      have HS := Lib.hid hset
      have HO2 := Lib.hid (hO2.store kn (u := countK (ks.take j) kn + 1) ⟨by omega, by omega⟩)
      generalize hcx : countK (ks.take j) kn = cx at *
      obtain ⟨hb0, hb1⟩ := hbd
      clear hat hset hO2 hcx HD HO
      go_wp2
      go_roundw
      case rel => exact ⟨j + 1, by go_num, by omega, by rw [List.take_add_one, HK1.out]; have := HO2.out; rw [HS.out] at this; exact this, HB2.out.setCell (Nat.le_refl _) _⟩
      case measure => simp [intOf]; omega
    · obtain rfl : j = n := by omega
      rw [List.take_of_length_le (by rw [HL.out]; exact Nat.le_refl _)] at hO
      have HO := Lib.hid hO
      clear hO hB
      go_wp2
      go_ret
      exact ⟨⟨_, rfl, HO.out⟩, HB.out⟩
end Go.Proofs.Ytkcpakmfipiglaa
