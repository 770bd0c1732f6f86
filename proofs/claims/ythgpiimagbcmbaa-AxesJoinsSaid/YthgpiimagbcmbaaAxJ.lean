/- Contract of package axes' Join. -/
import Derived.Test.YthgpiimagbcmbaaAxesC
namespace Go.Proofs.Ythgpiimagbcmbaa
open Go.RowKit

theorem Sep.addOld {w0 w : World} {l : List Chunk} (h : Sep w0 w l) {A : Option Addr} {n : Nat} {xs : List Int} (hI : Ints w0 A n xs) : Sep w0 w (.ints A n xs :: l) :=
  Sep.cons_ h.1 ⟨h.oldI hI, hI.lt⟩ h.2.1 (fun i d hi k hk => by cases hk) h.2.2
theorem tot_le_len {ax : Nat} : ∀ {l : TL}, allRight l → tot ax l ≤ 32 * l.length
  | [], _ => by simp [tot]
  | t :: l, h => by
    have h1 := tot_le_len (ax := ax) (l := l) fun u hu => h u (by simp [hu])
    have h2 := right_getD (h t (by simp)) ax
    have h3 : ∀ (l : TL) (a : Int), l.foldl (fun a t => a + t.1.getD ax 0) a = a + tot ax l := by
      intro l
      induction l with
      | nil => intro a; simp [tot]
      | cons u l ih => intro a; rw [tot, List.foldl_cons, List.foldl_cons, ih, ih (0 + _)]; omega
    have e : tot ax (t :: l) = t.1.getD ax 0 + tot ax l := by rw [tot, List.foldl_cons, h3]; omega
    rw [e, List.length_cons]
    omega
theorem tot_bd {l : TL} (h : allRight l) (ax i : Nat) : 0 ≤ tot ax (l.take i) ∧ tot ax (l.take i) ≤ 32 * l.length := by
  have h1 := all_tot h ax i
  have h2 := tot_le_len (ax := ax) h
  omega
theorem but_fit {s t : List Int} {ax : Nat} {x : Int} : But (ax : Int) (s.set ax x) t ↔ fitAx s ax t := by
  constructor
  · rintro ⟨h1, h2⟩
    refine ⟨by simpa using h1.symm, fun k a b hne ha hb => ?_⟩
    have := h2 k b a (by omega) (by rw [List.getElem?_set, if_neg (Ne.symm hne)]; exact hb) ha
    exact this.symm
  · rintro ⟨h1, h2⟩
    refine ⟨by simpa using h1.symm, fun k a b hne ha hb => ?_⟩
    have hne' : k ≠ ax := fun e => hne (by rw [e])
    rw [List.getElem?_set, if_neg (Ne.symm hne')] at ha
    exact (h2 k b a hne' hb ha).symm
theorem run_drop1 {a : Addr} {n c : Nat} (h1 : 1 ≤ n) (hnc : n ≤ c) : ∃ A2 : Option Addr, (∀ w, (Instr.slice 32 (.slice (some a) n c) (some (.int .i64 1)) none none).run Try.prog w = .ok (.slice A2 (n - 1) (c - 1)) w) ∧ (1 < n → A2 = some (a.add 2)) := by
  have hu : Try.prog.underlying 32 = some (.slice 25) := by kernel_rfl
  by_cases hc : c = 1
  · refine ⟨some a, fun w => ?_, fun h => by omega⟩
    go_simp
    intro h; omega
  · refine ⟨some (a.add 2), fun w => ?_, fun h => rfl⟩
    go_simp
    intro h; omega
set_option maxRecDepth 100000 in
set_option maxHeartbeats 6400000 in
theorem axJoin_any {w : World} {A : Option Addr} {n c : Nat} {l : TL} (ax : Int) (hT : Tens w A n l) (hnc : n ≤ c) :
    Calls Try.prog 16 #[.int .i64 ax, .slice A n c] w fun e w' => (∃ u, e = .returned (.tuple #[u, .int .i64 (joinR ax l).1]) ∧ OTen w' w.heap.size u (joinR ax l).2.1 (joinR ax l).2.2) ∧ Below w.heap.size w w' := by
  have hl := hT.1
  have hn6 := hT.2.1
  have HTN := Lib.hid hT
  have HLN := Lib.hid hl
  clear hT hl
  have h1 := (Sep.nil w).allocBox w.heap.size 25 [.slice none 0 0, .slice none 0 0] rfl
  go_enter Try.func16, Try.ntmps16
  go_upto_region 1 with fail
  generalize w.alloc (.cells #[.slice none 0 0, .slice none 0 0] 25) = W at *
  have H := Lib.hid h1
  clear h1
  go_wp2_with fail
  go_loopw [18] (fun kv wr => ∃ j : Nat, kv = .int .i64 j ∧ j ≤ n ∧ (∀ (k : Nat) (t : List Int × List Int), k < j → l[k]? = some t → tenRight t.1 t.2 = true) ∧ Sep w wr [.box w.heap.size 25 [.slice none 0 0, .slice none 0 0]]) (fun kv _ => n - (intOf kv).toNat)
  case atStart => exact ⟨0, rfl, by omega, fun k t hk => by omega, H.out⟩
  case round =>
    clear H
    obtain ⟨j, rfl, hj, hall, hS⟩ := hrel
    have HA := Lib.hid hall
    have H := Lib.hid hS
    clear hall hS
    by_cases hlt : j < n
    · obtain ⟨t, ht⟩ := getElem_of (l := l) (k := j) (by have := HLN.out; omega)
      obtain ⟨a, S, sn, sc, D, dn, dc, hA, hbl, q0, q1, hten⟩ := HTN.out.2.2 (j) t ht
      subst hA
      have HE := Lib.hid ht
      have HQ0 := Lib.hid q0
      have HQ1 := Lib.hid q1
      have HTE := Lib.hid hten
      clear ht q0 q1 hten
      have q0 := H.out.oldCell (by rw [block_of_add]; exact hbl) HQ0.out
      have q1 := H.out.oldCell (p := ⟨(a.add ((j) * 2)).block, (a.add ((j) * 2)).off + 1, none⟩) (by simp only [block_of_add]; exact hbl) HQ1.out
      have hB := H.out.allocBox wr.heap.size 25 [.slice S sn sc, .slice D dn dc] rfl
      go_upto_region 4 with fail
      generalize wr.alloc (.cells #[.slice S sn sc, .slice D dn dc] 25) = wb at *
      replace H := Lib.hid hB
      clear hB q0 q1
      have b0 := H.out.cell 0 0 rfl rfl
      have b1 := H.out.cell 0 1 rfl rfl
      have C1 := tRight_any (H.out.oldTen HTE.out)
      go_wp2_with fail
      cases hr : tenRight t.1 t.2 with
      | false =>
        rw [hr] at C1
        refine C1.mono ?_; rintro e2 w2 ⟨rfl, hb2⟩
        replace H := Lib.hid (H.out.below hb2)
        have HX := Lib.hid (joinR_right (ax := ax) (fun hc => by have := hc t (List.mem_of_getElem? HE.out); rw [hr] at this; cases this))
        have r0 := H.out.cell 1 0 rfl rfl
        have r1 := H.out.cell 1 1 rfl rfl
        have fr0 := H.out.frozenBox 1 0 rfl
        have fr1 := H.out.frozenBox 1 1 rfl
        clear hb2 hr C1 b0 b1
        go_wp2
        rw [HX.out]
        exact sep_ret2 ((H.out.setBox 1 0 (.slice none 0 0) rfl).setBox 1 1 (.slice none 0 0) rfl) 1 rfl (z := .int .i64 13) Try.results16 rfl rfl rfl ⟨⟨_, rfl, _, _, 0, 0, rfl, OwnS.nil_ _ _ _, OwnS.nil_ _ _ _⟩, ((H.out.setBox 1 0 (.slice none 0 0) rfl).setBox 1 1 (.slice none 0 0) rfl).base⟩
      | true =>
        rw [hr] at C1
        refine C1.mono ?_; rintro e2 w2 ⟨rfl, hb2⟩
        replace H := Lib.hid (H.out.below hb2).tail_
        have HR := Lib.hid hr
        clear hb2 hr C1 b0 b1
        go_wp2
        go_roundw
        case rel => exact ⟨j + 1, by go_num, by omega, fun k u hk hu => by
          rcases Nat.lt_or_ge k j with h' | h'
          · exact HA.out k u h' hu
          · obtain rfl : k = j := by omega
            rw [HE.out] at hu; injection hu with hu; subst hu; exact HR.out, H.out⟩
        case measure => simp [intOf]; omega
    · have hjn : n = j := by omega
      subst hjn
      have HAR := Lib.hid (show allRight l from fun t ht => by obtain ⟨i, hi⟩ := List.getElem?_of_mem ht; exact HA.out i t (by have := (List.getElem?_eq_some_iff.1 hi).1; have := HLN.out; omega) hi)
      clear HA hlt
      by_cases hn0 : n = 0
      · have dz : ((n : Int) == 0) = true := by simp [hn0]
        have HX := Lib.hid (joinR_arg (ax := ax) HAR.out (fun hc => by obtain ⟨t, ht, _⟩ := hc; have := (List.getElem?_eq_some_iff.1 ht).1; have := HLN.out; omega))
        clear hn0
        have r0 := H.out.cell 0 0 rfl rfl
        have r1 := H.out.cell 0 1 rfl rfl
        have fr0 := H.out.frozenBox 0 0 rfl
        have fr1 := H.out.frozenBox 0 1 rfl
        go_wp2
        rw [HX.out]
        exact sep_ret2 ((H.out.setBox 0 0 (.slice none 0 0) rfl).setBox 0 1 (.slice none 0 0) rfl) 0 rfl (z := .int .i64 1) Try.results16 rfl rfl rfl ⟨⟨_, rfl, _, _, 0, 0, rfl, OwnS.nil_ _ _ _, OwnS.nil_ _ _ _⟩, ((H.out.setBox 0 0 (.slice none 0 0) rfl).setBox 0 1 (.slice none 0 0) rfl).base⟩
      have dz : ((n : Int) == 0) = false := by simp; omega
      have hnp : 0 < n := by omega
      clear hn0
      by_cases g1 : ax < 0
      · have d1 : decide (ax < 0) = true := by simpa using g1
        have HX := Lib.hid (joinR_arg (ax := ax) HAR.out (fun hc => by obtain ⟨t, _, h0, _⟩ := hc; omega))
        have r0 := H.out.cell 0 0 rfl rfl
        have r1 := H.out.cell 0 1 rfl rfl
        have fr0 := H.out.frozenBox 0 0 rfl
        have fr1 := H.out.frozenBox 0 1 rfl
        go_wp2
        rw [HX.out]
        exact sep_ret2 ((H.out.setBox 0 0 (.slice none 0 0) rfl).setBox 0 1 (.slice none 0 0) rfl) 0 rfl (z := .int .i64 1) Try.results16 rfl rfl rfl ⟨⟨_, rfl, _, _, 0, 0, rfl, OwnS.nil_ _ _ _, OwnS.nil_ _ _ _⟩, ((H.out.setBox 0 0 (.slice none 0 0) rfl).setBox 0 1 (.slice none 0 0) rfl).base⟩
      obtain ⟨t0, ht0⟩ := getElem_of (l := l) (k := 0) (by have := HLN.out; omega)
      obtain ⟨a, S0, sn0, sc0, D0, dn0, dc0, hA, hbl, g0, _, hten⟩ := HTN.out.2.2 0 t0 ht0
      subst hA
      rw [show a.add (0 * 2) = a by cases a; rfl] at g0
      obtain ⟨hI0, _⟩ := ten_ints hten
      have hsn0 := hI0.len
      have HI0 := Lib.hid hI0
      have HT0 := Lib.hid ht0
      have HG0 := Lib.hid g0
      clear ht0 g0 hten hI0
      have g0 := H.out.oldCell hbl HG0.out
      by_cases g2 : (sn0 : Int) ≤ ax
      · have d2 : decide ((sn0 : Int) ≤ ax) = true := by simpa using g2
        have HX := Lib.hid (joinR_arg (ax := ax) HAR.out (fun hc => by obtain ⟨t, ht, _, h1⟩ := hc; rw [HT0.out] at ht; injection ht with ht; subst ht; omega))
        have r0 := H.out.cell 0 0 rfl rfl
        have r1 := H.out.cell 0 1 rfl rfl
        have fr0 := H.out.frozenBox 0 0 rfl
        have fr1 := H.out.frozenBox 0 1 rfl
        clear hsn0
        go_wp2
        rw [HX.out]
        exact sep_ret2 ((H.out.setBox 0 0 (.slice none 0 0) rfl).setBox 0 1 (.slice none 0 0) rfl) 0 rfl (z := .int .i64 1) Try.results16 rfl rfl rfl ⟨⟨_, rfl, _, _, 0, 0, rfl, OwnS.nil_ _ _ _, OwnS.nil_ _ _ _⟩, ((H.out.setBox 0 0 (.slice none 0 0) rfl).setBox 0 1 (.slice none 0 0) rfl).base⟩
      obtain ⟨xa, rfl⟩ := Int.eq_ofNat_of_zero_le (by omega : 0 ≤ ax)
      have hxa : xa < sn0 := by omega
      have e2 : decide (sn0 ≤ xa) = false := by simp; omega
      have HAX := Lib.hid (show axOk (xa : Int) l from ⟨t0, HT0.out, by omega, by omega⟩)
      have HHD := Lib.hid (show head1 l = t0.1 by cases hl : l with | nil => have := HT0.out; rw [hl] at this; simp at this | cons u r => have := HT0.out; rw [hl] at this; simp at this; rw [← this]; rfl)
      have HHL := Lib.hid (show (head1 l).length = sn0 by rw [HHD.out]; exact hsn0)
      have hs4 : sn0 ≤ 4 := by have := (right_len (HAR.out t0 (List.mem_of_getElem? HT0.out))).1; omega
      clear hsn0 g1 g2
      have hm := run_make_noughts Try.underlying22 Try.infoInt (n := sn0) (by omega)
      have h3 := H.out.noughts 3 sn0 (by omega)
      go_upto_region 10 with fail
      generalize wr.alloc (.cells (noughts sn0) 3) = w3 at *
      generalize wr.heap.size = gs at *
      replace H := Lib.hid h3
      clear h3 hm g0
      have g0 := H.out.oldCell hbl HG0.out
      have hO := H.out.own 0 rfl
      obtain ⟨A2, hsl, hA2⟩ := run_drop1 (a := a) hnp hnc
      have HA2 := Lib.hid hA2
      clear hA2
      go_wp2_with ((with_reducible refine wpList_copy_ints rfl (.tmp 50) (.tmp 54) 22 22 rfl 3 Try.underlying22 Try.sizeInt hO rfl rfl (H.out.oldI HI0.out) ?_); intro w4 hO4 hg4)
      have h5 : Sep w w4 [.own 3 (.slice (some ⟨gs, 0, none⟩) sn0 sn0) sn0 (head1 l), .box w.heap.size 25 [.slice none 0 0, .slice none 0 0]] := by rw [HHD.out]; exact H.out.grow 0 rfl hg4 hO4 (.inl rfl)
      replace H := Lib.hid h5
      clear h5 hO hO4 hg4 g0
      have HQH := Lib.hid (show ∀ j : Nat, (a.add 2).add (j * 2) = a.add ((j + 1) * 2) from fun j => by rw [add_of_add]; congr 1; omega)
      clear hsl
      obtain ⟨z0, hz0⟩ := getElem_of (l := t0.1) (k := xa) (by have := HHL.out; rw [HHD.out] at this; omega)
      have HZ0 := Lib.hid (show (head1 l).set xa (tot xa (l.take (0 + 1))) = head1 l by rw [tot_take HT0.out hz0, List.take_zero, show tot xa [] = 0 from rfl, Int.zero_add, HHD.out]; exact set_eq hz0)
      clear hz0
      go_loopw [59] (fun kv wr => ∃ i : Nat, kv = .int .i64 i ∧ i ≤ n - 1 ∧ (∀ (k : Nat) (t : List Int × List Int), k ≤ i → l[k]? = some t → fitAx (head1 l) xa t.1) ∧ Sep w wr [.own 3 (.slice (some ⟨gs, 0, none⟩) sn0 sn0) sn0 ((head1 l).set xa (tot xa (l.take (i + 1)))), .box w.heap.size 25 [.slice none 0 0, .slice none 0 0]]) (fun kv _ => n - 1 - (intOf kv).toNat)
      case atStart => exact ⟨0, rfl, by omega, fun k t hk ht => by
        obtain rfl : k = 0 := by omega
        rw [HT0.out] at ht; injection ht with ht; subst ht
        rw [HHD.out]
        exact ⟨rfl, fun q x y _ hx hy => by rw [hx] at hy; injection hy⟩, by rw [HZ0.out]; exact H.out⟩
      case round =>
        clear H
        obtain ⟨i, rfl, hile, hall, hS⟩ := hrel
        have HF := Lib.hid hall
        have H := Lib.hid hS
        clear hall hS
        by_cases hli : i < n - 1
        · have HBI := Lib.hid hbl
          have hAA := HA2.out (by omega)
          subst hAA
          obtain ⟨t, ht⟩ := getElem_of (l := l) (k := i + 1) (by have := HLN.out; omega)
          obtain ⟨a0, S, sn, sc, D, dn, dc, hA, _, q0, q1, hten⟩ := HTN.out.2.2 (i + 1) t ht
          injection hA with hA
          subst hA
          obtain ⟨a2, ha2⟩ : ∃ a2, a.add 2 = a2 := ⟨_, rfl⟩
          have hab := HQH.out i
          rw [ha2] at hab
          have hbl2 : (a2.add (i * 2)).block < w.heap.size := by rw [hab, block_of_add]; exact hbl
          rw [← hab] at q0 q1
          rw [ha2]
          have HE := Lib.hid ht
          have HQ0 := Lib.hid q0
          have HQ1 := Lib.hid q1
          have HTE := Lib.hid hten
          clear ht q0 q1 hten hab
          have q0 := H.out.oldCell hbl2 HQ0.out
          have q1 := H.out.oldCell (p := ⟨(a2.add (i * 2)).block, (a2.add (i * 2)).off + 1, none⟩) hbl2 HQ1.out
          have hB := H.out.allocBox wr.heap.size 25 [.slice S sn sc, .slice D dn dc] rfl
          go_upto_region 14 with fail
          generalize wr.alloc (.cells #[.slice S sn sc, .slice D dn dc] 25) = wb at *
          replace H := Lib.hid hB
          clear hB q0 q1
          have b0 := H.out.cell 0 0 rfl rfl
          have b1 := H.out.cell 0 1 rfl rfl
          have C1 := sameBut_any (c := sn0) (d := sc) (xa : Int) ((H.out.ownInts 1 rfl).2.2) ((ten_ints (H.out.oldTen HTE.out)).1)
          go_wp2_with fail
          refine C1.mono ?_; rintro e2 w2 ⟨⟨b2, rfl, hb⟩, rfl⟩
          have HB := Lib.hid hb
          clear hb C1
          cases b2
          case false =>
            have HX := Lib.hid (joinR_shape HAR.out HAX.out (fun hk => by have := HB.out.2 (but_fit.2 (hk.1 t (List.mem_of_getElem? HE.out))); cases this))
            have r0 := H.out.cell 2 0 rfl rfl
            have r1 := H.out.cell 2 1 rfl rfl
            have fr0 := H.out.frozenBox 2 0 rfl
            have fr1 := H.out.frozenBox 2 1 rfl
            clear b0 b1
            go_wp2
            rw [HX.out]
            exact sep_ret2 ((H.out.setBox 2 0 (.slice none 0 0) rfl).setBox 2 1 (.slice none 0 0) rfl) 2 rfl (z := .int .i64 13) Try.results16 rfl rfl rfl ⟨⟨_, rfl, _, _, 0, 0, rfl, OwnS.nil_ _ _ _, OwnS.nil_ _ _ _⟩, ((H.out.setBox 2 0 (.slice none 0 0) rfl).setBox 2 1 (.slice none 0 0) rfl).base⟩
          case true =>
            have HFI := Lib.hid (but_fit.1 (HB.out.1 rfl))
            clear HB
            have hsn : sn = sn0 := by have := (ten_ints HTE.out).1.len; have := HFI.out.1; have := HHL.out; omega
            obtain ⟨sa, x, hsA, _, hx, hcx, hfx⟩ := ((ten_ints (H.out.oldTen HTE.out)).1).at_ (k := xa) (by omega)
            subst hsA
            have hxb := right_getD (HAR.out t (List.mem_of_getElem? HE.out)) xa
            rw [List.getD_eq_getElem?_getD, hx] at hxb
            simp only [Option.getD_some] at hxb
            obtain ⟨htp, htot⟩ := tot_bd HAR.out xa (i + 1)
            rw [HLN.out] at htot
            have hcu := (H.out.own 1 rfl).cell (j := xa) (x := tot xa (l.take (i + 1))) (by rw [List.getElem?_set, if_pos rfl, if_pos (by have := HHL.out; omega)])
            have hfu := (H.out.own 1 rfl).frozen xa
            have htk := tot_take HE.out hx
            obtain ⟨T1, hT1⟩ : ∃ z, tot xa (l.take (i + 1)) = z := ⟨_, rfl⟩
            rw [hT1] at hcu htp htot htk
            have h8 := H.out.store 1 xa (x := T1 + x) ⟨by omega, by omega⟩ rfl
            rw [List.set_set, show (head1 l).set xa (T1 + x) = (head1 l).set xa (tot xa (l.take (i + 1 + 1))) by rw [htk]] at h8
            have hw : IntKind.i64.wrap (T1 + x) = T1 + x := IntWalk.i64_in _ ⟨by omega, by omega⟩
            have HS8 := Lib.hid h8.drew.tail_
            have hxs : xa < sn := by omega
            clear htk hT1 hx h8 hsn
            go_upto_region 16 with fail
            go_still_tail 11, (by kernel_rfl)
            change wpList _ _ _ _ _ wb.drew
            have hcu1 : wb.drew.cell? ⟨gs, xa, none⟩ = some (.int .i64 T1) := hcu
            have hfu1 : wb.drew.frozen? ⟨gs, xa, none⟩ = false := hfu
            go_wp2
            go_roundw
            case rel => exact ⟨i + 1, by go_num, by omega, fun k u hk hu => by
              rcases Nat.lt_or_ge i k with h' | h'
              · obtain rfl : k = i + 1 := by omega
                rw [HE.out] at hu; injection hu with hu; subst hu; exact HFI.out
              · exact HF.out k u h' hu, HS8.out⟩
            case measure => simp [intOf]; omega
        · have hin : i = n - 1 := by omega
          have HFA := Lib.hid (show ∀ t ∈ l, fitAx (head1 l) xa t.1 from fun t ht => by obtain ⟨k, hk⟩ := List.getElem?_of_mem ht; exact HF.out k t (by have := (List.getElem?_eq_some_iff.1 hk).1; have := HLN.out; omega) hk)
          replace H := Lib.hid (by have h := H.out; rwa [show (head1 l).set xa (tot xa (l.take (i + 1))) = joinS xa l by rw [joinS, List.take_of_length_le (by have := HLN.out; omega)]] at h)
          clear HF hin hile
          cases ho : Sh.right (joinS xa l) with
          | false =>
            have C4 := tFill_wrong 0 (c := sn0) ((H.out.ownInts 0 rfl).2.2) ⟨by omega, by omega⟩ ho
            have HX := Lib.hid (joinR_shape HAR.out HAX.out (fun hk => by have := hk.2; rw [show ((xa : Int)).toNat = xa from rfl, ho] at this; cases this))
            go_wp2_with fail
            refine C4.mono ?_; rintro e5 w5 ⟨⟨u5, rfl, hu5⟩, hb5⟩
            obtain ⟨S5, n5, sc5, D5, N5, dc5, rfl, hs5, hd5, _, _, _, h5⟩ := H.out.addTen hb5 hu5
            have h6 := h5.allocBox w5.heap.size 25 [.slice S5 n5 sc5, .slice D5 N5 dc5] rfl
            clear hu5 hb5 h5 hs5 hd5 C4 ho
            go_upto_region 19 with fail
            generalize w5.alloc (.cells #[.slice S5 n5 sc5, .slice D5 N5 dc5] 25) = w6 at *
            replace H := Lib.hid h6
            clear h6
            have r0 := H.out.cell 4 0 rfl rfl
            have r1 := H.out.cell 4 1 rfl rfl
            have fr0 := H.out.frozenBox 4 0 rfl
            have fr1 := H.out.frozenBox 4 1 rfl
            go_wp2
            rw [HX.out]
            exact sep_ret2 ((H.out.setBox 4 0 (.slice none 0 0) rfl).setBox 4 1 (.slice none 0 0) rfl) 4 rfl (z := .int .i64 13) Try.results16 rfl rfl rfl ⟨⟨_, rfl, _, _, 0, 0, rfl, OwnS.nil_ _ _ _, OwnS.nil_ _ _ _⟩, ((H.out.setBox 4 0 (.slice none 0 0) rfl).setBox 4 1 (.slice none 0 0) rfl).base⟩
          | true =>
            have HRO := Lib.hid ho
            have HOK := Lib.hid (show JoinOk xa l from ⟨HFA.out, ho⟩)
            have C4 := tFill_right 0 (c := sn0) ((H.out.ownInts 0 rfl).2.2) ⟨by omega, by omega⟩ ho
            obtain ⟨N, hN⟩ := Int.eq_ofNat_of_zero_le (Sh.size_bd (joinS xa l)).1
            have hN4 : N ≤ 4096 := by have := (Sh.size_bd (joinS xa l)).2; omega
            rw [hN, Int.toNat_natCast] at C4
            have HN := Lib.hid hN
            clear hN ho
            have HJL := Lib.hid (show (joinS xa l).length = sn0 by rw [joinS_length]; exact HHL.out)
            have HQ := Lib.hid (joinR_ok HAR.out HAX.out HOK.out)
            go_wp2_with fail
            refine C4.mono ?_; rintro e5 w5 ⟨⟨u5, rfl, hu5⟩, hb5⟩
            obtain ⟨S1, ns, scO, D1, N1, dcO, rfl, hs5, hd5, hsc, hdc, hNle, h5⟩ := H.out.addTen hb5 hu5
            rw [List.length_replicate] at hd5
            subst hd5
            have hns : sn0 = ns := by have := HJL.out; omega
            subst hns
            have h6 := h5.allocBox w5.heap.size 25 [.slice S1 sn0 scO, .slice D1 N dcO] rfl
            clear hu5 hb5 h5 hs5 C4
            go_upto_region 19 with fail
            generalize w5.alloc (.cells #[.slice S1 sn0 scO, .slice D1 N dcO] 25) = w6 at *
            generalize w5.heap.size = gt at *
            replace H := Lib.hid h6
            clear h6
            have hm := run_make_noughts Try.underlying22 Try.infoInt (n := sn0) (by omega)
            have h3 := H.out.noughts 3 sn0 (by omega)
            go_upto_region 22 with fail
            generalize w6.alloc (.cells (noughts sn0) 3) = w7 at *
            generalize w6.heap.size = ga at *
            replace H := Lib.hid h3
            clear h3 hm
            go_wp2_with fail
            go_loopw [96] (fun kv wr => ∃ i : Nat, kv = .int .i64 i ∧ i ≤ n ∧ Sep w wr [.own 3 (.slice (some ⟨ga, 0, none⟩) sn0 sn0) sn0 (atAx sn0 xa (tot xa (l.take i))), .box gt 25 [.slice S1 sn0 scO, .slice D1 N dcO], .own 3 (.slice S1 sn0 scO) sn0 (joinS xa l), .own 2 (.slice D1 N dcO) N (joinUp xa l i), .own 3 (.slice (some ⟨gs, 0, none⟩) sn0 sn0) sn0 (joinS xa l), .box w.heap.size 25 [.slice none 0 0, .slice none 0 0]]) (fun kv _ => n - (intOf kv).toNat)
            case atStart => exact ⟨0, rfl, by omega, by rw [List.take_zero, show tot xa [] = 0 from rfl, atAx, set_eq (by rw [List.getElem?_replicate, if_pos hxa]), joinUp_zero, HN.out]; exact H.out⟩
            case round =>
              clear H
              obtain ⟨i, rfl, hile, hS⟩ := hrel
              have H := Lib.hid hS
              clear hS
              by_cases hli : i < n
              · clear hbl
                obtain ⟨t, ht⟩ := getElem_of (l := l) (k := i) (by have := HLN.out; omega)
                obtain ⟨a, S, sn, sc, D, dn, dc, hA, hbl, q0, q1, hten⟩ := HTN.out.2.2 (i) t ht
                injection hA with hA
                subst hA
                have HE := Lib.hid ht
                have HQ0 := Lib.hid q0
                have HQ1 := Lib.hid q1
                have HTE := Lib.hid hten
                clear ht q0 q1 hten
                have q0 := H.out.oldCell (by rw [block_of_add]; exact hbl) HQ0.out
                have q1 := H.out.oldCell (p := ⟨(a.add ((i) * 2)).block, (a.add ((i) * 2)).off + 1, none⟩) (by simp only [block_of_add]; exact hbl) HQ1.out
                have hB := H.out.allocBox wr.heap.size 25 [.slice S sn sc, .slice D dn dc] rfl
                go_upto_region 25 with fail
                generalize wr.alloc (.cells #[.slice S sn sc, .slice D dn dc] 25) = wb at *
                replace H := Lib.hid hB
                clear hB q0 q1
                have HDN := Lib.hid (ten_ints HTE.out).2.len
                have HSN := Lib.hid (ten_ints HTE.out).1.len
                have HTR := Lib.hid (HAR.out t (List.mem_of_getElem? HE.out))
                obtain ⟨hld, hup, hnf, hjt⟩ := join_lead HAR.out HOK.out (by have := HHL.out; omega) HE.out
                rw [HJL.out] at hld hup hnf
                rw [HN.out, Int.toNat_natCast] at hld
                have hsn : sn0 = sn := by have := HJL.out; have := HSN.out; omega
                subst hsn
                have HLD := Lib.hid hld
                have HUP := Lib.hid hup
                have HNF := Lib.hid hnf
                clear hld hup hnf hjt
                have H2 := Lib.hid ((H.out.addOld (ten_ints HTE.out).1).addOld (ten_ints HTE.out).2)
                have b0 := H.out.cell 0 0 rfl rfl
                have b1 := H.out.cell 0 1 rfl rfl
                have o0 := H.out.cell 2 0 rfl rfl
                have o1 := H.out.cell 2 1 rfl rfl
                go_wp2_with fail
                refine (lay_any H2.out 6 5 3 1 0 rfl rfl rfl rfl rfl (by decide) (fun w' h => by have := OwnS.form h; obtain ⟨A', c', hv, _, hI, _⟩ := this; injection hv with h1 h2 h3; subst h1; exact hI) (right_of HTR.out) HRO.out HNF.out (by have := len_right HTR.out; have := HDN.out; omega) rfl HLD.out).mono ?_; rintro e8 w8 ⟨rfl, h8⟩
                have h9 : Sep w w8 [.ints D dn t.2, .ints S sn0 t.1, .box wr.heap.size 25 [.slice S sn0 sc, .slice D dn dc], .own 3 (.slice (some ⟨ga, 0, none⟩) sn0 sn0) sn0 (atAx sn0 xa (tot xa (l.take i))), .box gt 25 [.slice S1 sn0 scO, .slice D1 N dcO], .own 3 (.slice S1 sn0 scO) sn0 (joinS xa l), .own 2 (.slice D1 N dcO) N (layD (joinUp xa l i) t.2 t.1 (atAx sn0 xa (tot xa (l.take i))) (joinS xa l) dn), .own 3 (.slice (some ⟨gs, 0, none⟩) sn0 sn0) sn0 (joinS xa l), .box w.heap.size 25 [.slice none 0 0, .slice none 0 0]] := h8
                rw [← HDN.out, ← HUP.out, HDN.out] at h9
                replace H := Lib.hid h9.tail_.tail_
                clear h8 h9 H2 o0 o1 b0 b1
                obtain ⟨sa, x, hsA, _, hx, hcx, hfx⟩ := ((ten_ints (H.out.oldTen HTE.out)).1).at_ (k := xa) (by omega)
                subst hsA
                have hxb := right_getD HTR.out xa
                rw [List.getD_eq_getElem?_getD, hx] at hxb
                simp only [Option.getD_some] at hxb
                obtain ⟨htp, htot⟩ := tot_bd HAR.out xa i
                rw [HLN.out] at htot
                have hcu := (H.out.own 1 rfl).cell (j := xa) (x := tot xa (l.take i)) (by rw [atAx, List.getElem?_set, if_pos rfl, if_pos (by simpa using hxa)])
                have hfu := (H.out.own 1 rfl).frozen xa
                have htk := tot_take HE.out hx
                obtain ⟨T1, hT1⟩ : ∃ z, tot xa (l.take i) = z := ⟨_, rfl⟩
                rw [hT1] at hcu htp htot htk
                have h8 := H.out.store 1 xa (x := T1 + x) ⟨by omega, by omega⟩ rfl
                rw [atAx, List.set_set, show (List.replicate sn0 0 : List Int).set xa (T1 + x) = atAx sn0 xa (tot xa (l.take (i + 1))) by rw [htk]; rfl] at h8
                have hw : IntKind.i64.wrap (T1 + x) = T1 + x := IntWalk.i64_in _ ⟨by omega, by omega⟩
                have b0 := H.out.cell 0 0 rfl rfl
                have HS8 := Lib.hid h8.drew.tail_
                clear htk hT1 hx h8
                go_upto_region 26 with fail
                go_still_tail 11, (by kernel_rfl)
                change wpList _ _ _ _ _ w8.drew
                have hcu1 : w8.drew.cell? ⟨ga, xa, none⟩ = some (.int .i64 T1) := hcu
                have hfu1 : w8.drew.frozen? ⟨ga, xa, none⟩ = false := hfu
                go_wp2
                go_roundw
                case rel => exact ⟨i + 1, by go_num, by omega, HS8.out⟩
                case measure => simp [intOf]; omega
              · have hin : n = i := by omega
                subst hin
                have HQ2 := Lib.hid (show joinR (xa : Int) l = (0, joinS xa l, joinUp xa l n) by rw [HQ.out, HLN.out]; rfl)
                have o0 := H.out.cell 1 0 rfl rfl
                have o1 := H.out.cell 1 1 rfl rfl
                have r0 := H.out.cell 5 0 rfl rfl
                have r1 := H.out.cell 5 1 rfl rfl
                have fr0 := H.out.frozenBox 5 0 rfl
                have fr1 := H.out.frozenBox 5 1 rfl
                go_wp2
                rw [HQ2.out]
                exact sep_ret2 ((H.out.setBox 5 0 (.slice S1 sn0 scO) rfl).setBox 5 1 (.slice D1 N dcO) rfl) 5 rfl (z := .int .i64 0) Try.results16 rfl rfl rfl ⟨⟨_, rfl, _, _, sn0, N, rfl, ((H.out.setBox 5 0 (.slice S1 sn0 scO) rfl).setBox 5 1 (.slice D1 N dcO) rfl).ownS 2 rfl, ((H.out.setBox 5 0 (.slice S1 sn0 scO) rfl).setBox 5 1 (.slice D1 N dcO) rfl).ownS 3 rfl⟩, ((H.out.setBox 5 0 (.slice S1 sn0 scO) rfl).setBox 5 1 (.slice D1 N dcO) rfl).base⟩
end Go.Proofs.Ythgpiimagbcmbaa
