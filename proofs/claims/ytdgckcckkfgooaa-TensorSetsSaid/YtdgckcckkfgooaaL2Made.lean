/- TensorMade: the walk. -/
import Derived.Test.YtdgckcckkfgooaaL2Known
import Derived.Test.YtdgckcckkfgooaaKitReg
namespace Go.Proofs.Ytdgckcckkfgooaa
open Go.RowKit

theorem tenRight_fill {s : List Int} (x : Int) (h : Sh.right s = true) : tenRight s (List.replicate (Sh.size s).toNat x) = true := by
  have := Sh.size_bd s
  simp only [tenRight, h, List.length_replicate, Bool.true_and, decide_eq_true_eq]
  omega
theorem tenRight_iota {s : List Int} (k : Nat) (h : Sh.right s = true) : tenRight s (Sh.iota s k) = true := by
  have := Sh.size_bd s
  simp only [tenRight, h, Sh.iota_length, Bool.true_and, decide_eq_true_eq]
  omega
theorem tenIx_place {s d : List Int} {j : Nat} (hr : tenRight s d = true) (h : (j : Int) < Sh.size s) : tenIx s d (Sh.place s j) = j := by
  rw [tenIx, if_pos hr, Sh.index_place (by omega) h]
theorem tmod_bd {a : Int} {L : Nat} (hL : 0 < L) (h : a < 0) : -(L : Int) < a.tmod L ∧ a.tmod L ≤ 0 := by
  have h1 : a.tmod L = -((-a) % L) := by
    rw [← Int.tmod_eq_emod_of_nonneg (by omega), Int.neg_tmod, Int.neg_neg]
  have h2 := Int.emod_nonneg (-a) (b := (L : Int)) (by omega)
  have h3 := Int.emod_lt_of_pos (-a) (b := (L : Int)) (by omega)
  omega

set_option maxRecDepth 100000 in
set_option maxHeartbeats 12800000 in
theorem made2_walk {w : World} {A0 : Option Addr} {n0 c0 : Nat} {x0 : List Int} (x a : Int) (h0 : Ints w A0 n0 x0) (hx : Fits x) (ha : Fits a) :
    Calls Try.prog 6 #[.slice A0 n0 c0, .int .i64 x, .int .i64 a] w fun e w' => e = .returned (.bool true) ∧ Below w.heap.size w w' := by
  obtain ⟨ha1, ha2⟩ := ha
  have hT := tape_new (c := c0) h0
  have hB : Below w.heap.size w (w.alloc (.cells #[.slice A0 n0 c0, .int .i64 0] 33)) := (Below.refl _ _).alloc (Nat.le_refl _) _
  have hz : (w.alloc (.cells #[.slice A0 n0 c0, .int .i64 0] 33)).heap.size = w.heap.size + 1 := by simp
  go_enter Try.func6, Try.ntmps6
  go_upto_region 2 with fail
  generalize w.alloc (.cells #[.slice A0 n0 c0, .int .i64 0] 33) = wa at *
  have HX := Lib.hid hx
  have HB := Lib.hid hB
  have HZ := Lib.hid hz
  clear hB hz h0 hx
  go_wp2_with fail
  refine (next_any 3 hT ⟨by omega, by omega⟩).mono ?_; rintro e w1 ⟨⟨r, rfl, hr0, hr1⟩, hT1, hG1⟩
  have hr2 : r ≤ 2 := by omega
  have hgl : w.heap.size < w1.heap.size := hT1.lt
  have hL : OwnS (w1.alloc (.cells #[.int .i64 (1 + r)] 3)) w1.heap.size 3 (.slice (some ⟨w1.heap.size, 0, none⟩) 1 1) 1 [1 + r] :=
    ⟨World.ownsRow_lit w1 #[.int .i64 (1 + r)] 1 (Nat.le_refl _) (by decide) rfl, by intro y hy; simp at hy; subst hy; exact ⟨by omega, by omega⟩, by omega⟩
  have hx1 := (Below.refl w1.heap.size w1).alloc (Nat.le_refl _) (.cells #[.int .i64 (1 + r)] 3)
  have hT2 := hT1.below hx1
  have HG2 := Lib.hid (grown_over hG1 (hx1.mono (by have := hG1.size; omega)))
  have HL := Lib.hid hL
  have hwb : wa.heap.size ≤ w1.heap.size := hG1.size
  have hws := hx1.size
  clear hT hT1 hG1 hx1 hL hr1
  go_wp2_with fail
  generalize w1.alloc (.cells #[.int .i64 (1 + r)] 3) = w2 at *
  refine (tapeShape_any hT2).mono ?_; rintro e w3 ⟨⟨v, n, xs, rfl, hO, hn, hxs⟩, hT3, hG3⟩
  obtain ⟨A, c, rfl, hc, hI, hA⟩ := hO.form
  have HL3 := Lib.hid (HL.out.grown hG3 hgl)
  have HG3 := Lib.hid (grown_trans HG2.out hG3)
  have hws3 : w2.heap.size ≤ w3.heap.size := hG3.size
  clear hT2 hT3 hG3 hO hxs hA
  go_wp2_with (at_builtin; refine wpList_append_ints rfl (.tmp 24) (.tmp 26) 22 3 rfl Try.underlying22 Try.infoInt w1.heap.size _ 1 [1 + r] rfl HL3.out ?c1 A n c xs rfl hI ?c2 ?_)
  case c1 => omega
  case c2 => omega
  intro v4 w4 hO4 hg4 hat4
  clear hat4
  obtain ⟨L, hLn⟩ : ∃ L, 1 + n = L := ⟨_, rfl⟩
  obtain ⟨s, hs⟩ : ∃ s, (1 + r) :: xs = s := ⟨_, rfl⟩
  rw [hLn, hs] at hO4
  obtain ⟨A4, c4, rfl, hc4, hI4, _⟩ := hO4.form
  have hB4 := below_of_grown (B := w.heap.size) (g := w1.heap.size) (below_of_grown (B := w.heap.size) HB.out (by have := HZ.out; omega) HG3.out (Nat.le_refl _)) (by omega) hg4 (by omega)
  have hL1 : 1 ≤ L := by omega
  have hL4 : L ≤ 4 := by omega
  have hsl := hI4.len
  have HBz := Lib.hid hB4
  have HSL := Lib.hid hsl
  clear hO4 hg4 hLn hs hB4 hI hc hsl
  have hd4 : decide ((4 : Int) < (L : Int)) = false := by simp; omega
  have hd5 : decide (4 < L) = false := by simp; omega
  go_upto_region 5 with fail
  go_cut [9] (fun q wx => ∃ k : Nat, q = .int .i64 k ∧ k < L ∧ w4 = wx)
  case first =>
    by_cases h0 : 0 ≤ a
    · have q1 := Int.emod_nonneg a (b := (L : Int)) (by omega)
      have q2 := Int.emod_lt_of_pos a (b := (L : Int)) (by omega)
      have q3 := Int.emod_nonneg (a % L + L) (b := (L : Int)) (by omega)
      have q4 := Int.emod_lt_of_pos (a % L + L) (b := (L : Int)) (by omega)
      go_wp2_with fail
      go_meet
      exact ⟨((a % L + L) % L).toNat, by rw [Int.toNat_of_nonneg q3], by omega, rfl⟩
    · have q := tmod_bd (L := L) (by omega) (by omega : a < 0)
      obtain ⟨q1, q2⟩ := q
      have q3 := Int.emod_nonneg (a.tmod L + L) (b := (L : Int)) (by omega)
      have q4 := Int.emod_lt_of_pos (a.tmod L + L) (b := (L : Int)) (by omega)
      go_wp2_with fail
      go_meet
      exact ⟨((a.tmod L + L) % L).toNat, by rw [Int.toNat_of_nonneg q3]; congr 1; simp, by omega, rfl⟩
  case rest =>
    obtain ⟨k, rfl, hkL, rfl⟩ := hcut
    -- Fill
    go_wp2_with fail
    refine (tFill_any x hI4 HX.out).mono ?_; rintro e2 w5 ⟨⟨va, rfl, hva⟩, hb5⟩
    obtain ⟨fe, hfe⟩ : ∃ z, fillErr s = z := ⟨_, rfl⟩
    rw [hfe]
    have HFE := Lib.hid hfe
    obtain ⟨A1, n1, c1, B1, m1, e1, rfl, hnc1, hme1, _, hD1⟩ := hva.ten
    have HM1 := Lib.hid hD1.len
    have hg2 := heap_alloc_new w5 (.cells #[.slice A1 n1 c1, .slice B1 m1 e1] 26)
    have hx2 := (Below.refl w5.heap.size w5).alloc (Nat.le_refl _) (.cells #[.slice A1 n1 c1, .slice B1 m1 e1] 26)
    have hb6 := then_ hb5 hx2
    replace hI4 := hI4.below hb6
    have HA := Lib.hid (hva.ten.below hx2)
    replace HBz := Lib.hid (then_ HBz.out hb6)
    clear hb5 hD1 hva hb6 hx2 hfe
    go_upto_region 7 with fail
    generalize w5.alloc (.cells #[.slice A1 n1 c1, .slice B1 m1 e1] 26) = w6 at *
    have HA0 := Lib.hid (cell0_of hg2)
    have HA1 := Lib.hid (cell1_of hg2)
    generalize w5.heap.size = ga at *
    clear hg2
    -- Iota
    go_wp2_with fail
    refine (tIota_any (k : Int) hI4 ⟨by omega, by omega⟩).mono ?_; rintro e2 w7 ⟨⟨vb, rfl, hvb⟩, hb7⟩
    obtain ⟨ie, hie⟩ : ∃ z, iotaErr s k = z := ⟨_, rfl⟩
    rw [hie]
    have HIE := Lib.hid hie
    obtain ⟨A2, n2, c2, B2, m2, e2, rfl, hnc2, hme2, _, _⟩ := hvb.ten
    have hg4 := heap_alloc_new w7 (.cells #[.slice A2 n2 c2, .slice B2 m2 e2] 26)
    have hx4 := (Below.refl w7.heap.size w7).alloc (Nat.le_refl _) (.cells #[.slice A2 n2 c2, .slice B2 m2 e2] 26)
    have hb8 := then_ hb7 hx4
    replace hI4 := hI4.below hb8
    replace HA := Lib.hid (HA.out.below hb8)
    have HV := Lib.hid (hvb.ten.below hx4)
    replace HA0 := Lib.hid (box_keep hb8 HA0.out)
    replace HA1 := Lib.hid (box_keep hb8 HA1.out)
    replace HBz := Lib.hid (then_ HBz.out hb8)
    clear hb7 hvb hb8 hx4 hie
    go_upto_region 8 with fail
    generalize w7.alloc (.cells #[.slice A2 n2 c2, .slice B2 m2 e2] 26) = w8 at *
    have HV0 := Lib.hid (cell0_of hg4)
    have HV1 := Lib.hid (cell1_of hg4)
    generalize w7.heap.size = gb at *
    clear hg4
    go_wp2_with fail
    obtain ⟨rb, hrb⟩ : ∃ b, Sh.right s = b := ⟨_, rfl⟩
    refine (refRight_any hI4).mono ?_; rw [hrb]; rintro e w' ⟨rfl, rfl⟩
    have HRB := Lib.hid hrb
    clear hrb
    cases rb with
    | false =>
      obtain rfl : fe = 13 := by rw [← HFE.out, fillErr_false HRB.out]
      obtain rfl : ie = 13 := by rw [← HIE.out, (iota_shape HRB.out).1]
      go_wp2_with fail
      refine (l2known_any _).mono ?_; rintro e w9 ⟨rfl, hb9⟩
      replace HBz := Lib.hid (then_ HBz.out hb9)
      clear hb9
      go_wp2
      go_ret
      exact ⟨rfl, HBz.out⟩
    | true =>
      obtain rfl : fe = 0 := by rw [← HFE.out, fillErr_true HRB.out]
      have hkl : k < s.length := by rw [HSL.out]; exact hkL
      have EI := iota_ok (a := k) HRB.out hkl
      obtain rfl : ie = 0 := by rw [← HIE.out, EI.1]
      have HA' : Hid (Ten w8 (.agg #[.slice A1 n1 c1, .slice B1 m1 e1]) s (List.replicate (Sh.size s).toNat x)) := by
        have := HA.out; rwa [fillS_true HRB.out, fillD_true HRB.out] at this
      have HV' : Hid (Ten w8 (.agg #[.slice A2 n2 c2, .slice B2 m2 e2]) s (Sh.iota s k)) := by
        have := HV.out; rwa [EI.2.1, EI.2.2] at this
      have hm1 : m1 = (Sh.size s).toNat := by rw [← HM1.out, fillD_true HRB.out, List.length_replicate]
      have hsz := Sh.size_bd s
      obtain ⟨hsz0, hsz1⟩ := hsz
      have hc : ((Sh.size s).toNat : Int) = Sh.size s := by omega
      rw [← hm1] at hc
      have HC := Lib.hid hc
      have HM := Lib.hid hm1
      have hm4 : m1 ≤ 4096 := by omega
      have RA := Lib.hid (tenRight_fill x HRB.out)
      have RV := Lib.hid (tenRight_iota k HRB.out)
      clear HA HV EI hkl hm1 hc hsz0 hsz1 HM1
      have a0 := HA0.out
      have a1 := HA1.out
      have v0 := HV0.out
      have v1 := HV1.out
      go_wp2_with fail
      refine (tRight_any HA'.out).mono ?_; rw [RA.out]; rintro e w9 ⟨rfl, hb9⟩
      replace hI4 := hI4.below hb9
      replace HA' := Lib.hid (HA'.out.below hb9)
      replace HV' := Lib.hid (HV'.out.below hb9)
      have a0 := box_keep hb9 a0
      have a1 := box_keep hb9 a1
      have v0 := box_keep hb9 v0
      have v1 := box_keep hb9 v1
      replace HBz := Lib.hid (then_ HBz.out hb9)
      clear hb9 HA0 HA1 HV0 HV1
      go_wp2_with fail
      refine (tRight_any HV'.out).mono ?_; rw [RV.out]; rintro e w10 ⟨rfl, hb10⟩
      replace hI4 := hI4.below hb10
      replace HA' := Lib.hid (HA'.out.below hb10)
      replace HV' := Lib.hid (HV'.out.below hb10)
      have a0 := box_keep hb10 a0
      have a1 := box_keep hb10 a1
      have v0 := box_keep hb10 v0
      have v1 := box_keep hb10 v1
      replace HBz := Lib.hid (then_ HBz.out hb10)
      clear hb10
      go_wp2_with fail
      have HA0 := Lib.hid a0
      have HA1 := Lib.hid a1
      have HV0 := Lib.hid v0
      have HV1 := Lib.hid v1
      have HI4 := Lib.hid hI4
      clear a0 a1 v0 v1 hI4
      go_loopw [86] (fun kv wr => ∃ j : Nat, kv = .int .i64 j ∧ j ≤ m1 ∧ Below w10.heap.size w10 wr) (fun kv _ => m1 - (intOf kv).toNat)
      case atStart => exact ⟨0, rfl, by omega, Below.refl _ _⟩
      case round =>
        obtain ⟨j, rfl, hj, hbr⟩ := hrel
        have hI4 := HI4.out.below hbr
        have a0 := box_keep hbr HA0.out
        have a1 := box_keep hbr HA1.out
        have v0 := box_keep hbr HV0.out
        have v1 := box_keep hbr HV1.out
        have HBr := Lib.hid hbr
        by_cases hlt : j < m1
        · have hji : (j : Int) < Sh.size s := by rw [← HC.out]; omega
          have HP := Lib.hid (Sh.placeOf_place (s := s) (i := j) (by omega) hji)
          have HIA := Lib.hid (Sh.iota_at (a := k) hji)
          have HIX := Lib.hid (tenIx_place RV.out hji)
          have HW := Lib.hid (HV'.out.below hbr)
          have HU := Lib.hid (HA'.out.below hbr)
          clear hji hbr
          go_wp2_with fail
          refine (refPlace_any (j : Int) hI4 ⟨by omega, by omega⟩).mono ?_; rw [HP.out]; rintro e w11 ⟨⟨P, m, q, rfl, hq, hJ⟩, hb11⟩
          obtain rfl : m = L := by rw [← hJ.len, Sh.place_length]; exact HSL.out
          replace HW := Lib.hid (HW.out.below hb11)
          replace HU := Lib.hid (HU.out.below hb11)
          have a0 := box_keep hb11 a0
          have a1 := box_keep hb11 a1
          have v0 := box_keep hb11 v0
          have v1 := box_keep hb11 v1
          have HB11 := Lib.hid (then_ HBr.out hb11)
          clear hb11 hI4
          obtain ⟨pd0, y, rfl, _, hy, _, _⟩ := hJ.at_ hkL
          have HG := Lib.hid (tenGet_true HIX.out (x := y) (by rw [HIA.out, List.getD_eq_getElem?_getD, hy]; rfl))
          have HH := Lib.hid (tenHas_true (s := s) (d := Sh.iota s k) (p := Sh.place s j) (by rw [HIX.out]; omega))
          have HY := Lib.hid hy
          clear hy
          go_wp2_with fail
          refine (tGet_any HW.out hJ).mono ?_; rw [HG.out, HH.out]; rintro e w12 ⟨rfl, hb12⟩
          have hJ := hJ.below hb12
          replace HU := Lib.hid (HU.out.below hb12)
          have a0 := box_keep hb12 a0
          have a1 := box_keep hb12 a1
          have HB12 := Lib.hid (then_ HB11.out hb12)
          clear hb12 v0 v1
          obtain ⟨bd, bx, rfl, hbl, hbx, hbc, _⟩ := (ten_ints HU.out).2.at_ hlt
          obtain rfl : bx = x := by rw [List.getElem?_replicate] at hbx; split at hbx <;> simp_all
          obtain ⟨pd, py, ePd, hpl, hpy, hpc, _⟩ := hJ.at_ hkL
          injection ePd with ePd
          subst ePd
          obtain rfl : py = y := by have := HY.out; rw [hpy] at this; injection this
          clear hbx hpy hJ
          have hxx : (bx != bx) = false := by simp
          have hyy : (py != py) = false := by simp
          go_wp2_with fail
          go_roundw
          case rel => exact ⟨j + 1, by go_num, by omega, HB12.out⟩
          case measure => simp [intOf]; omega
        · obtain rfl : j = m1 := by omega
          have hjj : ((j : Int) == (j : Int)) = true := by simp
          have HB11 := Lib.hid (then_ HBz.out hbr)
          clear hbr
          go_wp2_with fail
          refine wp_region_held_drew (S := (fun w' => w'.cell? ⟨ga, 0, none⟩ = some (.slice A1 n1 c1) ∧ w'.cell? ⟨ga, 1, none⟩ = some (.slice B1 j e1))) (by kernel_rfl) ?_ (fun hHeld => ?_)
          · exact ⟨a0, a1⟩
          first | (refine takeU (i := 0) (oi := { dst := some 118, op := Op.fieldAddr 26 (Operand.tmp 10) 1, type := 0, pos := "law.go:125", after := #[], guard := none }) rfl (by kernel_rfl) (by kernel_rfl) (by kernel_rfl) (fun _ _ _ h => h) ?_ hHeld ?_; (focus rfl)) | (refine takeW (i := 0) (oi := { dst := some 118, op := Op.fieldAddr 26 (Operand.tmp 10) 1, type := 0, pos := "law.go:125", after := #[], guard := none }) ?_ rfl (by kernel_rfl) (by kernel_rfl) (by kernel_rfl) (fun _ _ _ h => h) ?_ ?_ hHeld ?_; rotate_left; (focus rfl); (focus (intro wq hSq; obtain ⟨sq0, sq1⟩ := hSq; (first | (go_simp; done) | (go_simp; with_reducible rfl)))))
          try simp only [Act.put, List.setIfInBounds_toArray, List.set_cons_zero, List.set_cons_succ]
          first | (refine takeU (i := 1) (oi := { dst := some 119, op := Op.load 24 (Operand.tmp 118), type := 24, pos := "law.go:125", after := #[{ on := 0, ground := Ground.data }], guard := none }) rfl (by kernel_rfl) (by kernel_rfl) (by kernel_rfl) (fun _ _ _ h => h) ?_ hHeld ?_; (focus rfl)) | (refine takeW (i := 1) (oi := { dst := some 119, op := Op.load 24 (Operand.tmp 118), type := 24, pos := "law.go:125", after := #[{ on := 0, ground := Ground.data }], guard := none }) ?_ rfl (by kernel_rfl) (by kernel_rfl) (by kernel_rfl) (fun _ _ _ h => h) ?_ ?_ hHeld ?_; rotate_left; (focus rfl); (focus (intro wq hSq; obtain ⟨sq0, sq1⟩ := hSq; (first | (go_simp; done) | (go_simp; with_reducible rfl)))))
          try simp only [Act.put, List.setIfInBounds_toArray, List.set_cons_zero, List.set_cons_succ]
          first | (refine takeU (i := 2) (oi := { dst := some 120, op := Op.call { callee := Callee.builtin Builtin.len, args := #[Operand.tmp 119], argTypes := #[24] }, type := 3, pos := "law.go:125", after := #[{ on := 1, ground := Ground.data }], guard := none }) rfl (by kernel_rfl) (by kernel_rfl) (by kernel_rfl) (fun _ _ _ h => h) ?_ hHeld ?_; (focus rfl)) | (refine takeW (i := 2) (oi := { dst := some 120, op := Op.call { callee := Callee.builtin Builtin.len, args := #[Operand.tmp 119], argTypes := #[24] }, type := 3, pos := "law.go:125", after := #[{ on := 1, ground := Ground.data }], guard := none }) ?_ rfl (by kernel_rfl) (by kernel_rfl) (by kernel_rfl) (fun _ _ _ h => h) ?_ ?_ hHeld ?_; rotate_left; (focus rfl); (focus (intro wq hSq; obtain ⟨sq0, sq1⟩ := hSq; (first | (go_simp; done) | (go_simp; with_reducible rfl)))))
          try simp only [Act.put, List.setIfInBounds_toArray, List.set_cons_zero, List.set_cons_succ]
          first | (refine takeU (i := 3) (oi := { dst := some 121, op := Op.move (Operand.tmp 8), type := 22, pos := "law.go:125", after := #[], guard := none }) rfl (by kernel_rfl) (by kernel_rfl) (by kernel_rfl) (fun _ _ _ h => h) ?_ hHeld ?_; (focus rfl)) | (refine takeW (i := 3) (oi := { dst := some 121, op := Op.move (Operand.tmp 8), type := 22, pos := "law.go:125", after := #[], guard := none }) ?_ rfl (by kernel_rfl) (by kernel_rfl) (by kernel_rfl) (fun _ _ _ h => h) ?_ ?_ hHeld ?_; rotate_left; (focus rfl); (focus (intro wq hSq; obtain ⟨sq0, sq1⟩ := hSq; (first | (go_simp; done) | (go_simp; with_reducible rfl)))))
          try simp only [Act.put, List.setIfInBounds_toArray, List.set_cons_zero, List.set_cons_succ]
          refine wpAnyH_ready (rs := [4]) (by kernel_rfl) (by simp) ?_
          refine AllReadyH.cons (o := { dst := some 122, op := Op.call { callee := Callee.value (Operand.func 22), args := #[Operand.tmp 121], argTypes := #[22] }, type := 3, pos := "law.go:125", after := #[{ on := 3, ground := Ground.data }], guard := none }) rfl (fun K hK => ?_) AllReadyH.nil
          first | (refine effU ?_ ?_; (focus rfl)) | (go_simp; (go_at_call 22; refine (refSize_any (w := wr.drew) hI4).mono ?_; rw [← HC.out]; rintro e w' ⟨rfl, rfl⟩); go_wp2_with fail)
          refine hK.out _ _ ?_ (fun hHeld2 => ?_)
          · first | assumption | (exact ⟨a0, a1⟩)
          clear hK K hHeld
          have hHeld := hHeld2; clear hHeld2
          try simp only [Act.put, List.setIfInBounds_toArray, List.set_cons_zero, List.set_cons_succ]
          first | (refine takeU (i := 5) (oi := { dst := some 123, op := Op.binOp BinOp.eql 3 (Operand.tmp 120) (Operand.tmp 122) 3, type := 4, pos := "law.go:125", after := #[{ on := 2, ground := Ground.data }, { on := 4, ground := Ground.data }], guard := none }) rfl (by kernel_rfl) (by kernel_rfl) (by kernel_rfl) (fun _ _ _ h => h) ?_ hHeld ?_; (focus rfl)) | (refine takeW (i := 5) (oi := { dst := some 123, op := Op.binOp BinOp.eql 3 (Operand.tmp 120) (Operand.tmp 122) 3, type := 4, pos := "law.go:125", after := #[{ on := 2, ground := Ground.data }, { on := 4, ground := Ground.data }], guard := none }) ?_ rfl (by kernel_rfl) (by kernel_rfl) (by kernel_rfl) (fun _ _ _ h => h) ?_ ?_ hHeld ?_; rotate_left; (focus rfl); (focus (intro wq hSq; obtain ⟨sq0, sq1⟩ := hSq; (first | (go_simp; done) | (go_simp; with_reducible rfl)))))
          try simp only [Act.put, List.setIfInBounds_toArray, List.set_cons_zero, List.set_cons_succ]
          first | (refine takeU (i := 6) (oi := { dst := some 124, op := Op.move (Operand.tmp 123), type := 4, pos := "law.go:125", after := #[{ on := 5, ground := Ground.data }, { on := 4, ground := Ground.chain }], guard := none }) rfl (by kernel_rfl) (by kernel_rfl) (by kernel_rfl) (fun _ _ _ h => h) ?_ hHeld ?_; (focus rfl)) | (refine takeW (i := 6) (oi := { dst := some 124, op := Op.move (Operand.tmp 123), type := 4, pos := "law.go:125", after := #[{ on := 5, ground := Ground.data }, { on := 4, ground := Ground.chain }], guard := none }) ?_ rfl (by kernel_rfl) (by kernel_rfl) (by kernel_rfl) (fun _ _ _ h => h) ?_ ?_ hHeld ?_; rotate_left; (focus rfl); (focus (intro wq hSq; obtain ⟨sq0, sq1⟩ := hSq; (first | (go_simp; done) | (go_simp; with_reducible rfl)))))
          try simp only [Act.put, List.setIfInBounds_toArray, List.set_cons_zero, List.set_cons_succ]
          refine wpAnyH_ready (rs := [7]) (by kernel_rfl) (by simp) ?_
          refine AllReadyH.cons (o := { dst := some 125, op := Op.call { callee := Callee.value (Operand.func 10), args := #[], argTypes := #[] }, type := 4, pos := "law.go:125", after := #[{ on := 6, ground := Ground.chain }, { on := 6, ground := Ground.guard }], guard := some (6, true) }) rfl (fun K hK => ?_) AllReadyH.nil
          first | (refine effU ?_ ?_; (focus rfl)) | (go_simp; (go_at_call 10; refine (l2known_any _).mono ?_; rintro e w12 ⟨rfl, hb12⟩; have b0 := box_keep (w := wr.drew) hb12 a0; have b1 := box_keep (w := wr.drew) hb12 a1); go_wp2_with fail)
          refine hK.out _ _ ?_ (fun hHeld2 => ?_)
          · first | assumption | (exact ⟨b0, b1⟩)
          clear hK K hHeld
          have hHeld := hHeld2; clear hHeld2
          try simp only [Act.put, List.setIfInBounds_toArray, List.set_cons_zero, List.set_cons_succ]
          first | (refine takeU (i := 8) (oi := { dst := some 126, op := Op.pick (Operand.tmp 124) (Operand.tmp 125) (Operand.const (Value.bool false)), type := 4, pos := "law.go:125", after := #[{ on := 6, ground := Ground.data }, { on := 7, ground := Ground.data }], guard := none }) rfl (by kernel_rfl) (by kernel_rfl) (by kernel_rfl) (fun _ _ _ h => h) ?_ hHeld ?_; (focus rfl)) | (refine takeW (i := 8) (oi := { dst := some 126, op := Op.pick (Operand.tmp 124) (Operand.tmp 125) (Operand.const (Value.bool false)), type := 4, pos := "law.go:125", after := #[{ on := 6, ground := Ground.data }, { on := 7, ground := Ground.data }], guard := none }) ?_ rfl (by kernel_rfl) (by kernel_rfl) (by kernel_rfl) (fun _ _ _ h => h) ?_ ?_ hHeld ?_; rotate_left; (focus rfl); (focus (intro wq hSq; obtain ⟨sq0, sq1⟩ := hSq; (first | (go_simp; done) | (go_simp; with_reducible rfl)))))
          try simp only [Act.put, List.setIfInBounds_toArray, List.set_cons_zero, List.set_cons_succ]
          first | (refine takeU (i := 9) (oi := { dst := some 6, op := Op.assign (Operand.tmp 126), type := 4, pos := "law.go:125", after := #[{ on := 8, ground := Ground.data }, { on := 7, ground := Ground.chain }, { on := 0, ground := Ground.phase }, { on := 1, ground := Ground.phase }, { on := 2, ground := Ground.phase }, { on := 3, ground := Ground.phase }, { on := 4, ground := Ground.phase }, { on := 5, ground := Ground.phase }, { on := 6, ground := Ground.phase }, { on := 7, ground := Ground.phase }, { on := 8, ground := Ground.phase }], guard := none }) rfl (by kernel_rfl) (by kernel_rfl) (by kernel_rfl) (fun _ _ _ h => h) ?_ hHeld ?_; (focus rfl)) | (refine takeW (i := 9) (oi := { dst := some 6, op := Op.assign (Operand.tmp 126), type := 4, pos := "law.go:125", after := #[{ on := 8, ground := Ground.data }, { on := 7, ground := Ground.chain }, { on := 0, ground := Ground.phase }, { on := 1, ground := Ground.phase }, { on := 2, ground := Ground.phase }, { on := 3, ground := Ground.phase }, { on := 4, ground := Ground.phase }, { on := 5, ground := Ground.phase }, { on := 6, ground := Ground.phase }, { on := 7, ground := Ground.phase }, { on := 8, ground := Ground.phase }], guard := none }) ?_ rfl (by kernel_rfl) (by kernel_rfl) (by kernel_rfl) (fun _ _ _ h => h) ?_ ?_ hHeld ?_; rotate_left; (focus rfl); (focus (intro wq hSq; obtain ⟨sq0, sq1⟩ := hSq; (first | (go_simp; done) | (go_simp; with_reducible rfl)))))
          try simp only [Act.put, List.setIfInBounds_toArray, List.set_cons_zero, List.set_cons_succ]
          refine wpAnyH_done (by kernel_rfl) ?_ _
          have HBe := Lib.hid (then_ HB11.out.drew hb12)
          go_wp2
          go_ret
          exact ⟨rfl, HBe.out⟩
end Go.Proofs.Ytdgckcckkfgooaa
