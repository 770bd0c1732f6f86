/- Contracts of package dot. -/
import Derived.Test.YtihjobpdphljiaaRef7
import Derived.Test.YtihjobpdphljiaaDtK
import Derived.Test.YtihjobpdphljiaaRoom
namespace Go.Proofs.Ytihjobpdphljiaa
open Go.RowKit

theorem right_mid {a b c : List Int} (h : Sh.right (a ++ b ++ c) = true) (hp : ∀ x ∈ a ++ b ++ c, 1 ≤ x ∧ x ≤ 32) : Sh.right b = true ∧ Sh.size b = Sh.pd b ∧ 0 < Sh.pd b := by
  have ha : 0 < Sh.pd a := pd_pos fun x hx => (hp x (by simp [hx])).1
  have hb : 0 < Sh.pd b := pd_pos fun x hx => (hp x (by simp [hx])).1
  have hc : 0 < Sh.pd c := pd_pos fun x hx => (hp x (by simp [hx])).1
  obtain ⟨h1, h2, h3⟩ := Sh.right_iff.1 h
  rw [Sh.pr_pd, Sh.pd_append, Sh.pd_append] at h3
  have h4 : Sh.pd b ≤ Sh.pd a * Sh.pd b := by have := Int.mul_le_mul_of_nonneg_right (show 1 ≤ Sh.pd a by omega) (show 0 ≤ Sh.pd b by omega); omega
  have h5 : Sh.pd a * Sh.pd b ≤ Sh.pd a * Sh.pd b * Sh.pd c := by have := Int.mul_le_mul_of_nonneg_left (show 1 ≤ Sh.pd c by omega) (show 0 ≤ Sh.pd a * Sh.pd b by omega); omega
  have hr : Sh.right b = true := Sh.right_iff.2 ⟨by simp at h1; omega, fun x hx => h2 x (by simp [hx]), by rw [Sh.pr_pd]; omega⟩
  exact ⟨hr, by rw [Sh.size_of hr, Sh.pr_pd], hb⟩
theorem dot_sizes {s t : List Int} {n i : Nat} (h : DotOk s t n) (hi : (i : Int) < Sh.size (dotS s t n)) :
    Sh.size ((s.drop n).take (s.length - 1 - n)) = (dotA s n : Int) ∧ Sh.size (t.drop (n + 1)) = (dotB t n : Int) ∧ 0 < dotA s n ∧ 0 < dotB t n := by
  have e3 : s.take n ++ (s.drop n).take (s.length - 1 - n) = s.take (s.length - 1) := by
    have := List.take_append_drop n (s.take (s.length - 1))
    have hla := h.la
    rw [List.take_take, List.drop_take, show min n (s.length - 1) = n by omega] at this
    exact this
  have eS : dotS s t n = s.take n ++ (s.drop n).take (s.length - 1 - n) ++ t.drop (n + 1) := by rw [e3]; rfl
  have hp := (Sh.size_pos (by omega) hi).2
  have hr := h.rs
  rw [eS] at hp hr
  obtain ⟨_, a2, a3⟩ := right_mid hr hp
  obtain ⟨_, b2, b3⟩ := right_mid (a := s.take n ++ (s.drop n).take (s.length - 1 - n)) (b := t.drop (n + 1)) (c := []) (by rw [List.append_nil]; exact hr) (by rw [List.append_nil]; exact hp)
  exact ⟨by rw [a2, dotA]; omega, by rw [b2, dotB]; omega, by rw [dotA]; omega, by rw [dotB]; omega⟩
/-- l[lo:hi] -/
theorem run_cutI {A : Addr} {n c lo hi : Nat} (h1 : lo ≤ hi) (h2 : hi ≤ n) (hc : n ≤ c) : ∀ w, (Instr.slice 22 (.slice (some A) n c) (some (.int .i64 (lo : Int))) (some (.int .i64 (hi : Int))) none).run Try.prog w = .ok (.slice (dropA (some A) c lo) (hi - lo) (c - lo)) w := by
  intro w
  have hu : Try.prog.underlying 22 = some (.slice 3) := by kernel_rfl
  have h3 : hi ≤ c := by omega
  by_cases hcl : c = lo
  · subst hcl
    go_simp
    rw [dropA, if_pos rfl]
  · go_simp
    rw [dropA, if_neg hcl]
    rfl
set_option maxRecDepth 100000 in
set_option maxHeartbeats 3200000 in
theorem dtShape_any {w : World} {A B : Option Addr} {na ca nb cb : Nat} {a b : List Int} (n : Int) (hA : Ints w A na a) (hB : Ints w B nb b) (ka : na ≤ ca) (kb : nb ≤ cb) :
    Calls Try.prog 22 #[.slice A na ca, .slice B nb cb, .int .i64 n] w fun e w' => (∃ v m, e = .returned (.tuple #[v, .int .i64 (dsR a b n).1]) ∧ OwnS w' w.heap.size 3 v m (dsR a b n).2) ∧ Below w.heap.size w w' := by
  have hla := hA.len
  have hlb := hB.len
  have hlea := hA.le
  have hleb := hB.le
  by_cases h0 : n < 0
  · have d0 : decide (n < 0) = true := by simpa using h0
    have HX := Lib.hid (dsR_arg (a := a) (b := b) (n := n) (by omega))
    go_enter Try.func22, Try.ntmps22
    go_wp2
    go_ret2
    rw [HX.out]
    exact ⟨⟨_, 0, rfl, OwnS.nil_ _ _ _⟩, Below.refl _ _⟩
  have d0 : decide (n < 0) = false := by simpa using h0
  obtain ⟨k, rfl⟩ := Int.eq_ofNat_of_zero_le (by omega : 0 ≤ n)
  clear h0
  by_cases h1 : na ≤ k
  · have d1 : decide (na ≤ k) = true := by simpa using h1
    have HX := Lib.hid (dsR_arg (a := a) (b := b) (n := (k : Int)) (by omega))
    clear hla hlb
    go_enter Try.func22, Try.ntmps22
    go_wp2
    go_ret2
    rw [HX.out]
    exact ⟨⟨_, 0, rfl, OwnS.nil_ _ _ _⟩, Below.refl _ _⟩
  have d1 : decide (na ≤ k) = false := by simpa using h1
  by_cases h2 : nb ≤ k
  · have d2 : decide (nb ≤ k) = true := by simpa using h2
    have HX := Lib.hid (dsR_arg (a := a) (b := b) (n := (k : Int)) (by omega))
    clear hla hlb
    go_enter Try.func22, Try.ntmps22
    go_wp2
    go_ret2
    rw [HX.out]
    exact ⟨⟨_, 0, rfl, OwnS.nil_ _ _ _⟩, Below.refl _ _⟩
  have d2 : decide (nb ≤ k) = false := by simpa using h2
  have hka : k < na := by omega
  have hkb : k < nb := by omega
  clear h1 h2
  have HAB := Lib.hid (show k < a.length ∧ k < b.length by omega)
  obtain ⟨pa, x, hpA, _, hx, hcx, hfx⟩ := hA.at_ (k := na - 1) (by omega)
  obtain ⟨pb, y, hpB, _, hy, hcy, hfy⟩ := hB.at_ (k := k) hkb
  subst hpA
  subst hpB
  have HX := Lib.hid (show a.getD (a.length - 1) 0 = x by rw [List.getD_eq_getElem?_getD, hla, hx]; rfl)
  have HY := Lib.hid (show b.getD k 0 = y by rw [List.getD_eq_getElem?_getD, hy]; rfl)
  have HLA := Lib.hid hla
  have HLB := Lib.hid hlb
  have IA := Lib.hid (hA.take (k := k) (by omega))
  have IB := Lib.hid (hB.take (k := k) (by omega))
  have HA := Lib.hid hA
  have HB := Lib.hid hB
  clear hx hy hfx hfy hla hlb hA hB
  have hwn : IntKind.i64.wrap ((na : Int) - 1) = ((na - 1 : Nat) : Int) := by rw [show (na : Int) - 1 = ((na - 1 : Nat) : Int) by omega]; exact IntWalk.i64_in _ ⟨by omega, by omega⟩
  have CA := right_any (c := ca) HA.out
  have CB := right_any (c := cb) HB.out
  cases RA : Sh.right a with
  | false =>
    rw [RA] at CA
    have HX := Lib.hid (dsR_shape HAB.out (by rw [dotFit, RA]; rfl))
    go_enter Try.func22, Try.ntmps22
    go_wp2_with fail
    refine CA.mono ?_; rintro e1 w1 ⟨rfl, rfl⟩
    clear CA
    go_wp2
    go_ret2
    rw [HX.out]
    exact ⟨⟨_, 0, rfl, OwnS.nil_ _ _ _⟩, Below.refl _ _⟩
  | true =>
    rw [RA] at CA
    cases RB : Sh.right b with
    | false =>
      rw [RB] at CB
      have HX := Lib.hid (dsR_shape HAB.out (by rw [dotFit, RA, RB]; rfl))
      go_enter Try.func22, Try.ntmps22
      go_wp2_with fail
      refine CA.mono ?_; rintro e1 w1 ⟨rfl, rfl⟩
      clear CA
      go_wp2_with fail
      refine CB.mono ?_; rintro e2 w2 ⟨rfl, rfl⟩
      clear CB
      go_wp2
      go_ret2
      rw [HX.out]
      exact ⟨⟨_, 0, rfl, OwnS.nil_ _ _ _⟩, Below.refl _ _⟩
    | true =>
      rw [RB] at CB
      cases RP : (a.take k == b.take k) with
      | false =>
        have C3 := fun q => same_any (c := ca) (d := cb) (IA.out.drewN q) (IB.out.drewN q)
        simp only [RP] at C3
        replace C3 := Lib.hid C3
        have HX := Lib.hid (dsR_shape HAB.out (by rw [dotFit, RA, RB, show decide (a.take k = b.take k) = false from decide_eq_false (by simpa using RP)]; rfl))
        go_enter Try.func22, Try.ntmps22
        go_wp2_with fail
        refine CA.mono ?_; rintro e1 w1 ⟨rfl, rfl⟩
        clear CA
        go_wp2_with fail
        refine CB.mono ?_; rintro e2 w2 ⟨rfl, rfl⟩
        clear CB
        go_upto_region 6 with fail
        go_quiet (first | (go_at_call 36; with_reducible exact quietS (C3.out _)))
        go_wp2
        go_ret2
        rw [HX.out]
        exact ⟨⟨_, 0, rfl, OwnS.nil_ _ _ _⟩, (Sep.nil w).drewN _ |>.base⟩
      | true =>
        have C3 := fun q => same_any (c := ca) (d := cb) (IA.out.drewN q) (IB.out.drewN q)
        simp only [RP] at C3
        replace C3 := Lib.hid C3
        by_cases hxy : x = y
        · subst hxy
          have HFT := Lib.hid (show dotFit a b k = true from dotFit_iff.2 ⟨RA, RB, by simpa using RP, HX.out.trans HY.out.symm⟩)
          have dxx : (x != x) = false := by simp
          have hna4 : na ≤ 4 := by have := (Sh.right_iff.1 RA).1; have := HLA.out; omega
          have hnb4 : nb ≤ 4 := by have := (Sh.right_iff.1 RB).1; have := HLB.out; omega
          go_enter Try.func22, Try.ntmps22
          go_wp2_with fail
          refine CA.mono ?_; rintro e1 w1 ⟨rfl, rfl⟩
          clear CA
          go_wp2_with fail
          refine CB.mono ?_; rintro e2 w2 ⟨rfl, rfl⟩
          clear CB
          go_upto_region 6 with fail
          go_quiet (first | (go_at_call 36; with_reducible exact quietS (C3.out _)))
          go_upto_region 8 with fail
          have H := Lib.hid ((Sep.nil w).drewN nq)
          generalize w.drewN nq = w5 at *
          clear C3 HY dxx hcx hcy
          obtain ⟨nz, hnz⟩ : ∃ nz : Nat, na - 1 + nb - k - 1 = nz := ⟨_, rfl⟩
          have hs3 : ((na - 1 : Nat) : Int) + (nb : Int) - (k : Int) - 1 = (nz : Int) := by omega
          have hnz6 : nz ≤ 8 := by omega
          have HNZ := Lib.hid hnz
          clear hnz
          have hm := run_make_room Try.underlying22 Try.infoInt (n := nz) (by omega)
          have h1 := H.out.room 3 nz (by omega)
          go_upto_region 9 with fail
          generalize w5.alloc (.cells (noughts nz) 3) = w6 at *
          replace H1 := Lib.hid h1
          clear h1 hm hs3 H
          obtain ⟨A2, hsl, hI2⟩ := run_dropK ((k : Int) + 1) (k := k + 1) (by omega) HB.out (by omega) (by omega) kb
          have HI2 := Lib.hid hI2
          clear hI2
          have hwk : IntKind.i64.wrap ((k : Int) + 1) = (k : Int) + 1 := IntWalk.i64_in _ ⟨by omega, by omega⟩
          have HI1 := Lib.hid (HA.out.take (k := na - 1) (by omega))
          have hca1 : na ≤ ca + 1 := by omega
          go_wp2_with (at_builtin; refine wpList_appends_sep rfl (.tmp 62) (.tmp 65) 22 3 rfl Try.underlying22 Try.infoInt H1.out 0 rfl rfl _ (na - 1) ca _ rfl (H1.out.oldI HI1.out) ?c1 ?_)
          case c1 => omega
          intro v2 w2 h2
          have H2 := Lib.hid h2
          clear h2
          go_wp2_with (at_builtin; refine wpList_appends_sep rfl (.tmp 67) (.tmp 71) 22 3 rfl Try.underlying22 Try.infoInt H2.out 0 rfl rfl _ (nb - (k + 1)) (cb - (k + 1)) _ rfl (H2.out.oldI HI2.out) ?c1 ?_)
          case c1 => omega
          intro v3 w3 h3
          have H3 := Lib.hid h3
          clear h3
          have HL := Lib.hid (show a.take (na - 1) ++ b.drop (k + 1) = dotS a b k by rw [dotS, HLA.out])
          have hS3 := H3.out
          rw [HL.out] at hS3
          obtain ⟨nu, hnu⟩ : ∃ nu, na - 1 + (nb - (k + 1)) = nu := ⟨_, rfl⟩
          rw [hnu] at hS3
          obtain ⟨Z, hZ⟩ : ∃ Z, dotS a b k = Z := ⟨_, rfl⟩
          rw [hZ] at hS3
          replace H3 := Lib.hid hS3
          clear hS3
          obtain ⟨A5, c5, hv, _, _, _⟩ := (H3.out.ownS 0 rfl).form
          subst hv
          have C5 := right_any (c := c5) ((H3.out.ownInts 0 rfl).2.2)
          clear hsl H1 H2 hwk hnu
          cases ho : Sh.right Z with
          | false =>
            rw [ho] at C5
            go_wp2_with fail
            refine C5.mono ?_; rintro e5 w5 ⟨rfl, rfl⟩
            have HX := Lib.hid (dsR_shape2 HAB.out HFT.out (by rw [hZ]; exact ho))
            clear C5 ho hZ
            go_wp2
            go_ret2
            rw [HX.out]
            exact ⟨⟨_, 0, rfl, OwnS.nil_ _ _ _⟩, H3.out.base⟩
          | true =>
            rw [ho] at C5
            go_wp2_with fail
            refine C5.mono ?_; rintro e5 w5 ⟨rfl, rfl⟩
            have HX := Lib.hid (dsR_ok HAB.out HFT.out (by rw [hZ]; exact ho))
            rw [hZ] at HX
            clear C5 ho hZ
            go_wp2
            go_ret2
            rw [HX.out]
            exact ⟨⟨_, _, rfl, H3.out.ownS 0 rfl⟩, H3.out.base⟩
        · have dxy : (x != y) = true := by simpa using hxy
          have HNE := Lib.hid hxy
          clear hxy
          have HX := Lib.hid (dsR_shape HAB.out (by rw [dotFit, HX.out, HY.out, show decide (x = y) = false from decide_eq_false HNE.out]; simp))
          go_enter Try.func22, Try.ntmps22
          go_wp2_with fail
          refine CA.mono ?_; rintro e1 w1 ⟨rfl, rfl⟩
          clear CA
          go_wp2_with fail
          refine CB.mono ?_; rintro e2 w2 ⟨rfl, rfl⟩
          clear CB
          go_upto_region 6 with fail
          go_quiet (first | (go_at_call 36; with_reducible exact quietS (C3.out _)))
          go_wp2
          go_ret2
          rw [HX.out]
          exact ⟨⟨_, 0, rfl, OwnS.nil_ _ _ _⟩, (Sep.nil w).drewN _ |>.base⟩
set_option maxRecDepth 100000 in
set_option maxHeartbeats 6400000 in
theorem dtDo_any {w : World} {v v' : Value} {s d t k : List Int} (n0 : Int) (h : Ten w v s d) (g : Ten w v' t k) :
    Calls Try.prog 14 #[v, v', .int .i64 n0] w fun e w' => (∃ u, e = .returned (.tuple #[u, .int .i64 (dotR s d t k n0).1]) ∧ OTen w' w.heap.size u (dotR s d t k n0).2.1 (dotR s d t k n0).2.2) ∧ Below w.heap.size w w' := by
  obtain ⟨A, n, c, B, m, e, rfl, hnc, hme, hI, hJ⟩ := h
  obtain ⟨A2, n2, c2, B2, m2, e2, rfl, hnc2, hme2, hI2, hJ2⟩ := g
  have h1 := ((((((Sep.nil w).old hJ2).old hI2).old hJ).old hI).allocBox w.heap.size 26 [.slice A n c, .slice B m e] rfl).allocBox (w.heap.size + 1) 26 [.slice A2 n2 c2, .slice B2 m2 e2] (by simp)
  replace h1 := h1.allocBox (w.heap.size + 1 + 1) 26 [.slice none 0 0, .slice none 0 0] (by simp)
  have hnle := hI.le
  have hmle := hJ.le
  have HFD := Lib.hid hJ.fit
  have HDL := Lib.hid hJ.len
  have HSL := Lib.hid hI.len
  have hnle2 := hI2.le
  have hmle2 := hJ2.le
  have HFK := Lib.hid hJ2.fit
  have HKL := Lib.hid hJ2.len
  have HTL := Lib.hid hI2.len
  clear hI hJ hI2 hJ2
  go_enter Try.func14, Try.ntmps14
  go_upto_region 1 with fail
  generalize ((w.alloc (.cells #[.slice A n c, .slice B m e] 26)).alloc (.cells #[.slice A2 n2 c2, .slice B2 m2 e2] 26)).alloc (.cells #[.slice none 0 0, .slice none 0 0] 26) = W at *
  have H := Lib.hid h1
  clear h1
  have a0 := H.out.cell 2 0 rfl rfl
  have a1 := H.out.cell 2 1 rfl rfl
  have b0 := H.out.cell 1 0 rfl rfl
  have b1 := H.out.cell 1 1 rfl rfl
  have C1 := tRight_any (ten_mk (H.out.oldInts 3 rfl) hnc (H.out.oldInts 4 rfl) hme)
  go_wp2_with fail
  cases hr : tenRight s d with
  | false =>
    rw [hr] at C1
    refine C1.mono ?_; rintro e3 w3 ⟨rfl, hb3⟩
    replace H := Lib.hid (H.out.below hb3)
    have HX := Lib.hid (dotR_right (s := s) (d := d) (t := t) (k := k) (n := n0) (by rw [hr]; rfl))
    have r0 := H.out.cell 0 0 rfl rfl
    have r1 := H.out.cell 0 1 rfl rfl
    have fr0 := H.out.frozenBox 0 0 rfl
    have fr1 := H.out.frozenBox 0 1 rfl
    clear hb3 hr C1 a0 a1 b0 b1
    go_wp2
    rw [HX.out]
    exact sep_ret2 ((H.out.setBox 0 0 (.slice none 0 0) rfl).setBox 0 1 (.slice none 0 0) rfl) 0 rfl (z := .int .i64 13) Try.results14 rfl rfl rfl ⟨⟨_, rfl, _, _, 0, 0, rfl, OwnS.nil_ _ _ _, OwnS.nil_ _ _ _⟩, ((H.out.setBox 0 0 (.slice none 0 0) rfl).setBox 0 1 (.slice none 0 0) rfl).base⟩
  | true =>
    rw [hr] at C1
    refine C1.mono ?_; rintro e3 w3 ⟨rfl, hb3⟩
    replace H := Lib.hid (H.out.below hb3)
    have HRT := Lib.hid hr
    clear hb3 hr C1 a0 a1 b0 b1
    have a0 := H.out.cell 2 0 rfl rfl
    have a1 := H.out.cell 2 1 rfl rfl
    have b0 := H.out.cell 1 0 rfl rfl
    have b1 := H.out.cell 1 1 rfl rfl
    have C2 := tRight_any (ten_mk (H.out.oldInts 5 rfl) hnc2 (H.out.oldInts 6 rfl) hme2)
    go_wp2_with fail
    cases hr2 : tenRight t k with
    | false =>
      rw [hr2] at C2
      refine C2.mono ?_; rintro e4 w4 ⟨rfl, hb4⟩
      replace H := Lib.hid (H.out.below hb4)
      have HX := Lib.hid (dotR_right (s := s) (d := d) (t := t) (k := k) (n := n0) (by rw [HRT.out, hr2]; rfl))
      have r0 := H.out.cell 0 0 rfl rfl
      have r1 := H.out.cell 0 1 rfl rfl
      have fr0 := H.out.frozenBox 0 0 rfl
      have fr1 := H.out.frozenBox 0 1 rfl
      clear hb4 hr2 C2 a0 a1 b0 b1
      go_wp2
      rw [HX.out]
      exact sep_ret2 ((H.out.setBox 0 0 (.slice none 0 0) rfl).setBox 0 1 (.slice none 0 0) rfl) 0 rfl (z := .int .i64 13) Try.results14 rfl rfl rfl ⟨⟨_, rfl, _, _, 0, 0, rfl, OwnS.nil_ _ _ _, OwnS.nil_ _ _ _⟩, ((H.out.setBox 0 0 (.slice none 0 0) rfl).setBox 0 1 (.slice none 0 0) rfl).base⟩
    | true =>
      rw [hr2] at C2
      refine C2.mono ?_; rintro e4 w4 ⟨rfl, hb4⟩
      replace H := Lib.hid (H.out.below hb4)
      have HRT2 := Lib.hid hr2
      clear hb4 hr2 C2 a0 a1 b0 b1
      have hn4 : n ≤ 4 := by have := (right_len HRT.out).1; have := HSL.out; omega
      have hn42 : n2 ≤ 4 := by have := (right_len HRT2.out).1; have := HTL.out; omega
      have hm4 : m ≤ 4096 := by have := (right_len HRT.out).2; have := HDL.out; omega
      have hm42 : m2 ≤ 4096 := by have := (right_len HRT2.out).2; have := HKL.out; omega
      have a0 := H.out.cell 2 0 rfl rfl
      have a1 := H.out.cell 2 1 rfl rfl
      have b0 := H.out.cell 1 0 rfl rfl
      have b1 := H.out.cell 1 1 rfl rfl
      have C3 := dtShape_any (ca := c) (cb := c2) n0 (H.out.oldInts 3 rfl) (H.out.oldInts 5 rfl) hnc hnc2
      have HBOTH := Lib.hid (show (tenRight s d && tenRight t k) = true by rw [HRT.out, HRT2.out]; rfl)
      go_wp2_with fail
      refine C3.mono ?_; rintro e5 w5 ⟨⟨vz, nz, rfl, hO⟩, hb5⟩
      clear C3 a0 a1 b0 b1
      by_cases hz : (dsR s t n0).1 = 0
      · obtain ⟨nn, rfl, hok, hds⟩ := dsR_zero hz
        rw [hds] at hO ⊢
        replace hO : OwnS w5 w4.heap.size 3 vz nz (dotS s t nn) := hO
        have HOK := Lib.hid hok
        clear hz hds hok
        obtain ⟨Z, hZ⟩ : ∃ Z, dotS s t nn = Z := ⟨_, rfl⟩
        rw [hZ] at hO
        have HZ := Lib.hid hZ
        clear hZ
        obtain ⟨Az, cz, rfl, hcz, _, _⟩ := hO.form
        have HZL := Lib.hid hO.len
        replace H := Lib.hid (H.out.addOwn hb5 hO)
        clear hO hb5
        have HRZ := Lib.hid (show Sh.right Z = true by rw [← HZ.out]; exact HOK.out.rs)
        have hnz4 : nz ≤ 4 := by have := (Sh.right_iff.1 HRZ.out).1; have := HZL.out; omega
        have hnn : nn < n := by have := HOK.out.la; have := HSL.out; omega
        have hnn2 : nn < n2 := by have := HOK.out.lb; have := HTL.out; omega
        go_wp2_with fail
        refine (tFillOk 0 ((H.out.ownInts 0 rfl).2.2) ⟨by omega, by omega⟩ HRZ.out).mono ?_; rintro e4 w4 ⟨⟨u, rfl, hu⟩, hb4⟩
        obtain ⟨S1, ns, sc, D1, N, dc, rfl, hs1, hd1, hsc, hdc, hNle, h5⟩ := H.out.addTen hb4 hu
        rw [List.length_replicate] at hd1
        rw [hd1] at h5
        have HN := Lib.hid hd1
        have hN4 : N ≤ 4096 := by have := (Sh.size_bd Z).2; omega
        have h6 := h5.allocBox w4.heap.size 26 [.slice S1 ns sc, .slice D1 N dc] rfl
        clear hu hb4 h5 hd1 hs1
        go_upto_region 9 with fail
        generalize w4.alloc (.cells #[.slice S1 ns sc, .slice D1 N dc] 26) = w5 at *
        generalize w4.heap.size = gt at *
        replace H := Lib.hid h6
        clear h6
        obtain ⟨tgt, htg⟩ : ∃ x, dotD s d t k nn = x := ⟨_, rfl⟩
        have HTG := Lib.hid (show tgt.length = N by rw [← htg, dotD_length, HZ.out]; exact HN.out)
        have HQ := Lib.hid htg
        clear htg
        obtain ⟨kk, hK⟩ : ∃ kk : Nat, n = kk + 1 := ⟨n - 1, by omega⟩
        have hw1 : IntKind.i64.wrap ((n : Int) - 1) = (kk : Int) := by rw [show (n : Int) - 1 = (kk : Int) by omega]; exact IntWalk.i64_in _ ⟨by omega, by omega⟩
        have HK := Lib.hid hK
        have hkn : kk < n := by omega
        have hnk : nn ≤ kk := by omega
        clear hK
        obtain ⟨pa, y, hpA, _, hy, hcy, hfy⟩ := (H.out.oldInts 7 rfl).at_ (k := kk) hkn
        subst hpA
        have hyb := (Sh.right_iff.1 (right_of HRT.out)).2.1 y (List.mem_of_getElem? hy)
        obtain ⟨M, rfl⟩ := Int.eq_ofNat_of_zero_le hyb.1
        have hM32 : M ≤ 32 := by omega
        have HM := Lib.hid (show dotM t nn = M by have hmid := HOK.out.mid; have h1 := HSL.out; have h2 := HK.out; rw [show s.length - 1 = kk by omega, List.getD_eq_getElem?_getD, hy] at hmid; rw [dotM, ← hmid]; rfl)
        clear hyb hfy hy
        have HAT := Lib.hid (show ∀ i : Nat, i < N → tgt[i]? = some (dotV s d t k nn i M) from fun i hi => by rw [← HQ.out, dotD, HZ.out, gen_at (by have := HN.out; omega), HM.out])
        have a0 := H.out.cell 6 0 rfl rfl
        have a1 := H.out.cell 6 1 rfl rfl
        go_upto_region 11 with fail
        clear hcy hw1
        have b0 := H.out.cell 5 0 rfl rfl
        have b1 := H.out.cell 5 1 rfl rfl
        obtain ⟨RW, hRW⟩ : ∃ RW, Sh.size ((s.drop nn).take (kk - nn)) = RW := ⟨_, rfl⟩
        obtain ⟨CW, hCW⟩ : ∃ CW, Sh.size (t.drop (nn + 1)) = CW := ⟨_, rfl⟩
        have hcut := run_cutI (A := pa) (n := n) (c := c) hnk (by omega : kk ≤ n) hnc
        have hIc := (H.out.oldInts 7 rfl).cut (lo := nn) (hi := kk) (c := c) hnk (by omega) hnc
        obtain ⟨A8, hA8⟩ : ∃ A8, dropA (some pa) c nn = A8 := ⟨_, rfl⟩
        rw [hA8] at hcut hIc
        obtain ⟨A9, hsl, hI9⟩ := run_dropK ((nn : Int) + 1) (k := nn + 1) (by omega) (H.out.oldInts 9 rfl) (by omega) (by omega) hnc2
        have hwk : IntKind.i64.wrap ((nn : Int) + 1) = (nn : Int) + 1 := IntWalk.i64_in _ ⟨by omega, by omega⟩
        have C1 := fun q => size_any (c := c - nn) (hIc.drewN q)
        have C2 := fun q => size_any (c := c2 - (nn + 1)) (hI9.drewN q)
        simp only [hRW] at C1
        simp only [hCW] at C2
        replace C1 := Lib.hid C1
        replace C2 := Lib.hid C2
        have HRW := Lib.hid hRW
        have HCW := Lib.hid hCW
        clear hRW hCW hIc hI9 hA8
        go_quiet (first | (go_at_call 31; with_reducible exact quietS (C1.out _)) | (go_at_call 31; with_reducible exact quietS (C2.out _)))
        clear a0 a1 b0 b1 hcut hsl hwk C1 C2
        have hS := H.out.drewN nq
        go_upto_region 12 with fail
        replace H := Lib.hid hS
        clear hS
        generalize w5.drewN nq = w6 at *
        have o0 := H.out.cell 0 0 rfl rfl
        have o1 := H.out.cell 0 1 rfl rfl
        go_wp2_with fail
        clear o0 o1
        go_loopw [75] (fun kv wr => ∃ i : Nat, kv = .int .i64 i ∧ i ≤ N ∧ Sep w wr [.box gt 26 [.slice S1 ns sc, .slice D1 N dc], .own 3 (.slice S1 ns sc) ns Z, .own 2 (.slice D1 N dc) N (mix tgt (List.replicate N 0) i), .own 3 (.slice Az nz cz) nz Z, .box (w.heap.size + 1 + 1) 26 [.slice none 0 0, .slice none 0 0], .box (w.heap.size + 1) 26 [.slice A2 n2 c2, .slice B2 m2 e2], .box w.heap.size 26 [.slice (some pa) n c, .slice B m e], .ints (some pa) n s, .ints B m d, .ints A2 n2 t, .ints B2 m2 k]) (fun kv _ => N - (intOf kv).toNat)
        case atStart => exact ⟨0, rfl, by omega, by rw [mix_zero]; exact H.out⟩
        case round =>
          clear H
          obtain ⟨i, rfl, hi, hS⟩ := hrel
          have H := Lib.hid hS
          clear hS
          by_cases hli : i < N
          · have hiz : (i : Int) < Sh.size (dotS s t nn) := by have := HN.out; rw [HZ.out]; omega
            obtain ⟨hsz1, hsz2, hA0, hB0⟩ := dot_sizes HOK.out hiz
            rw [show s.length - 1 - nn = kk - nn by have := HSL.out; have := HK.out; omega, HRW.out] at hsz1
            rw [HCW.out] at hsz2
            obtain ⟨da, hda⟩ : ∃ da, dotA s nn = da := ⟨_, rfl⟩
            obtain ⟨db, hdb⟩ : ∃ db, dotB t nn = db := ⟨_, rfl⟩
            rw [hda] at hsz1 hA0
            rw [hdb] at hsz2 hB0
            have hq1 : (i : Int) / CW = ((i / db : Nat) : Int) := by rw [hsz2]; rfl
            have hq2 : (i : Int) % CW = ((i % db : Nat) : Int) := by rw [hsz2]; rfl
            have hq3 : ((i / db : Nat) : Int) / RW = ((i / (da * db) : Nat) : Int) := by rw [hsz1, Nat.mul_comm, ← Nat.div_div_eq_div_mul]; rfl
            obtain ⟨r, hr⟩ : ∃ r, i / db = r := ⟨_, rfl⟩
            obtain ⟨cc, hcc⟩ : ∃ cc, i % db = cc := ⟨_, rfl⟩
            obtain ⟨q, hq⟩ : ∃ q, i / (da * db) = q := ⟨_, rfl⟩
            have hri : r ≤ i := by rw [← hr]; exact Nat.div_le_self _ _
            have hci : cc ≤ i := by rw [← hcc]; exact Nat.mod_le _ _
            have hqi : q ≤ i := by rw [← hq]; exact Nat.div_le_self _ _
            rw [hr] at hq1 hq3
            rw [hcc] at hq2
            rw [hq] at hq3
            have hCn : ¬ CW = 0 := by omega
            have hRn : ¬ RW = 0 := by omega
            have hx1 : IntKind.i64.wrap ((i : Int) / CW) = (r : Int) := by rw [hq1]; exact IntWalk.i64_in _ ⟨by omega, by omega⟩
            have hx2 : IntKind.i64.wrap ((i : Int) % CW) = (cc : Int) := by rw [hq2]; exact IntWalk.i64_in _ ⟨by omega, by omega⟩
            have hx3 : IntKind.i64.wrap ((r : Int) / RW) = (q : Int) := by rw [hq3]; exact IntWalk.i64_in _ ⟨by omega, by omega⟩
            have HDA := Lib.hid hda
            have HDB := Lib.hid hdb
            have HR := Lib.hid hr
            have HC := Lib.hid hcc
            have HQ1 := Lib.hid hq
            have HS1 := Lib.hid hsz1
            have HC2 := Lib.hid hq2
            have HS2 := Lib.hid hsz2
            clear hda hdb hr hcc hq hsz1 hsz2 hq1 hq2 hq3
            have hCp : 0 ≤ CW := by have := HS2.out; omega
            have hRp : 0 ≤ RW := by have := HS1.out; omega
            have hrp : (0 : Int) ≤ r := by omega
            have hip : (0 : Int) ≤ i := by omega
            have o0 := H.out.cell 0 0 rfl rfl
            have o1 := H.out.cell 0 1 rfl rfl
            have hli2 : decide (i < N) = true := by simpa using hli
            go_upto_region 15 with fail
            go_quiet (fail)
            have hS := H.out.drewN nq
            go_wp2_with fail
            replace H := Lib.hid hS
            clear hS
            clear o0 o1
            go_loopw [88] (fun jv wr => ∃ J : Nat, jv = .int .i64 J ∧ J ≤ M ∧ Sep w wr [.box gt 26 [.slice S1 ns sc, .slice D1 N dc], .own 3 (.slice S1 ns sc) ns Z, .own 2 (.slice D1 N dc) N ((mix tgt (List.replicate N 0) i).set i (dotV s d t k nn i J)), .own 3 (.slice Az nz cz) nz Z, .box (w.heap.size + 1 + 1) 26 [.slice none 0 0, .slice none 0 0], .box (w.heap.size + 1) 26 [.slice A2 n2 c2, .slice B2 m2 e2], .box w.heap.size 26 [.slice (some pa) n c, .slice B m e], .ints (some pa) n s, .ints B m d, .ints A2 n2 t, .ints B2 m2 k]) (fun jv _ => M - (intOf jv).toNat)
            case atStart => exact ⟨0, rfl, by omega, by rw [show dotV s d t k nn i 0 = 0 from rfl, set_same_ (mix_rep HTG.out hli)]; exact H.out⟩
            case round =>
              clear H
              obtain ⟨J, rfl, hJ, hS⟩ := hrel
              by_cases hlj : J < M
              · have hlj2 : decide (J < M) = true := by simpa using hlj
                obtain ⟨hx, hx4, hx5⟩ := dot_row HOK.out (i := i) (j := J) hiz (by rw [HM.out]; exact hlj)
                obtain ⟨hy, hy4, hy5⟩ := dot_col HOK.out (i := i) (j := J) hiz (by rw [HM.out]; exact hlj)
                obtain ⟨K1, q1, g1, _⟩ := num_at HRT.out hx hx4
                obtain ⟨K2, q2, g2, _⟩ := num_at HRT2.out hy hy4
                rw [hx5, HDB.out, HM.out, HR.out] at q1
                rw [hy5, HDA.out, HDB.out, HM.out, HQ1.out, HC.out] at q2
                have q1 : r * M + J = K1 := by omega
                have q2 : (q * M + J) * db + cc = K2 := by omega
                clear hx hx4 hx5 hy hy4 hy5
                have hk1 : K1 < m := by have := HDL.out; omega
                have hk2 : K2 < m2 := by have := HKL.out; omega
                clear g1 g2
                obtain ⟨rm, hrm⟩ : ∃ rm, r * M = rm := ⟨_, rfl⟩
                obtain ⟨qm, hqm⟩ : ∃ qm, q * M = qm := ⟨_, rfl⟩
                obtain ⟨qd, hqd⟩ : ∃ qd, (qm + J) * db = qd := ⟨_, rfl⟩
                have hqq : qm + J ≤ qd := by rw [← hqd]; exact Nat.le_mul_of_pos_right _ hB0
                rw [hrm] at q1
                rw [hqm, hqd] at q2
                have hy1 : IntKind.i64.wrap ((r : Int) * (M : Int)) = (rm : Int) := by rw [← Int.natCast_mul, hrm]; exact IntWalk.i64_in _ ⟨by omega, by omega⟩
                have hy2 : IntKind.i64.wrap ((rm : Int) + (J : Int)) = (K1 : Int) := by rw [← q1, Int.natCast_add]; exact IntWalk.i64_in _ ⟨by omega, by omega⟩
                have hy3 : IntKind.i64.wrap ((q : Int) * (M : Int)) = (qm : Int) := by rw [← Int.natCast_mul, hqm]; exact IntWalk.i64_in _ ⟨by omega, by omega⟩
                obtain ⟨qj, hqj⟩ : ∃ qj, qm + J = qj := ⟨_, rfl⟩
                rw [hqj] at hqd hqq
                have hy4 : IntKind.i64.wrap ((qm : Int) + (J : Int)) = (qj : Int) := by rw [← hqj, Int.natCast_add]; exact IntWalk.i64_in _ ⟨by omega, by omega⟩
                have hy5 : IntKind.i64.wrap ((qj : Int) * CW) = (qd : Int) := by rw [HS2.out, ← Int.natCast_mul, hqd]; exact IntWalk.i64_in _ ⟨by omega, by omega⟩
                have hy6 : IntKind.i64.wrap ((qd : Int) + (i : Int) % CW) = (K2 : Int) := by rw [HC2.out, ← q2, Int.natCast_add]; exact IntWalk.i64_in _ ⟨by omega, by omega⟩
                obtain ⟨gb, cb, hv, hO⟩ := (hS.ownS 2 rfl).own (by omega)
                injection hv with hv1 _ hv3
                subst hv1
                subst hv3
                clear hO
                obtain ⟨ga, u, hgA, _, hu, hcu, hfu⟩ := (hS.oldInts 8 rfl).at_ (k := K1) hk1
                subst hgA
                obtain ⟨gk, v, hgB, _, hv, hcv, hfv⟩ := (hS.oldInts 10 rfl).at_ (k := K2) hk2
                subst hgB
                obtain ⟨V, hV⟩ : ∃ V, dotV s d t k nn i J = V := ⟨_, rfl⟩
                rw [hV] at hS
                have hst : wrap64 (V + wrap64 (u * v)) = dotV s d t k nn i (J + 1) := by
                  have h0 : dotV s d t k nn i (J + 1) = wrap64 (dotV s d t k nn i J + dotT d k (dotA s nn) (dotB t nn) (dotM t nn) i J) := rfl
                  rw [h0, hV, dotT, HDA.out, HDB.out, HM.out, HR.out, HQ1.out, HC.out, hrm, q1, hqm, hqj, hqd, q2, List.getD_eq_getElem?_getD, List.getD_eq_getElem?_getD, hu, hv]; rfl
                have hzv : ((mix tgt (List.replicate N 0) i).set i V)[i]? = some V := by rw [List.getElem?_set_self (by rw [mix_length (by rw [HTG.out, List.length_replicate]), List.length_replicate]; exact hli)]
                have hcz := (hS.own 2 rfl).cell hzv
                have hff := (hS.own 2 rfl).frozen i
                have h9 := hS.store 2 i (x := wrap64 (V + wrap64 (u * v))) (fits_wrap _) rfl
                rw [show ((mix tgt (List.replicate N 0) i).set i V).set i (wrap64 (V + wrap64 (u * v))) = (mix tgt (List.replicate N 0) i).set i (dotV s d t k nn i (J + 1)) by rw [List.set_set, hst]] at h9
                have HS9 := Lib.hid h9.drew
                have H := Lib.hid hS
                have o0 := H.out.cell 0 0 rfl rfl
                have o1 := H.out.cell 0 1 rfl rfl
                have a0 := H.out.cell 6 0 rfl rfl
                have a1 := H.out.cell 6 1 rfl rfl
                have b0 := H.out.cell 5 0 rfl rfl
                have b1 := H.out.cell 5 1 rfl rfl
                have HE := Lib.hid (And.intro q1 (And.intro q2 (And.intro hu (And.intro hv (And.intro hst (And.intro hzv hV))))))
                clear hS h9 hst hzv hV hu hv q1 q2 hfu hfv hrm hqm hqd hqj hqq
                go_upto_region 20 with fail
                go_still_tail 30, (by kernel_rfl)
                change wpList _ _ _ _ _ wr.drew
                have hz1 : wr.drew.cell? ⟨gb, i, none⟩ = some (.int .i64 V) := hcz
                have hz2 : wr.drew.frozen? ⟨gb, i, none⟩ = false := hff
                clear o0 o1 a0 a1 b0 b1 hcu hcv hcz hff
                go_wp2
                go_roundw
                case rel => exact ⟨J + 1, by go_num, by omega, HS9.out⟩
                case measure => simp [intOf]; omega
              · have hjm : M = J := by omega
                subst hjm
                rw [mix_step HTG.out (HAT.out i hli)] at hS
                have H := Lib.hid hS
                clear hS
                go_wp2
                go_roundw
                case rel => exact ⟨i + 1, by go_num, by omega, H.out⟩
                case measure => simp [intOf]; omega
          · have hin : N = i := by omega
            subst hin
            have hS := H.out
            rw [mix_end HTG.out, ← HQ.out] at hS
            replace H := Lib.hid hS
            clear hS
            have HQ3 := Lib.hid (show dotR s d t k nn = (0, Z, dotD s d t k nn) by rw [dotR_ok HBOTH.out HOK.out, HZ.out])
            have o0 := H.out.cell 0 0 rfl rfl
            have o1 := H.out.cell 0 1 rfl rfl
            have r0 := H.out.cell 4 0 rfl rfl
            have r1 := H.out.cell 4 1 rfl rfl
            have fr0 := H.out.frozenBox 4 0 rfl
            have fr1 := H.out.frozenBox 4 1 rfl
            go_wp2
            rw [HQ3.out]
            exact sep_ret2 ((H.out.setBox 4 0 (.slice S1 ns sc) rfl).setBox 4 1 (.slice D1 N dc) rfl) 4 rfl (z := .int .i64 0) Try.results14 rfl rfl rfl ⟨⟨_, rfl, _, _, ns, N, rfl, ((H.out.setBox 4 0 (.slice S1 ns sc) rfl).setBox 4 1 (.slice D1 N dc) rfl).ownS 1 rfl, ((H.out.setBox 4 0 (.slice S1 ns sc) rfl).setBox 4 1 (.slice D1 N dc) rfl).ownS 2 rfl⟩, ((H.out.setBox 4 0 (.slice S1 ns sc) rfl).setBox 4 1 (.slice D1 N dc) rfl).base⟩
      · have HX := Lib.hid (dotR_shape HBOTH.out hz)
        obtain ⟨E, hE⟩ : ∃ E, (dsR s t n0).1 = E := ⟨_, rfl⟩
        rw [hE] at HX hz ⊢
        have dE : (E != 0) = true := by simpa using hz
        replace H := Lib.hid (H.out.addOwn hb5 hO)
        clear hz hO hb5 hE
        have r0 := H.out.cell 1 0 rfl rfl
        have r1 := H.out.cell 1 1 rfl rfl
        have fr0 := H.out.frozenBox 1 0 rfl
        have fr1 := H.out.frozenBox 1 1 rfl
        go_wp2
        rw [HX.out]
        exact sep_ret2 ((H.out.setBox 1 0 (.slice none 0 0) rfl).setBox 1 1 (.slice none 0 0) rfl) 1 rfl (z := .int .i64 E) Try.results14 rfl rfl rfl ⟨⟨_, rfl, _, _, 0, 0, rfl, OwnS.nil_ _ _ _, OwnS.nil_ _ _ _⟩, ((H.out.setBox 1 0 (.slice none 0 0) rfl).setBox 1 1 (.slice none 0 0) rfl).base⟩
end Go.Proofs.Ytihjobpdphljiaa
