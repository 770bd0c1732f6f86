/- Contract of package axes' path. -/
import Derived.Test.YthgpiimagbcmbaaAxH
import Derived.StillTailTactics
namespace Go.Proofs.Ythgpiimagbcmbaa
open Go.RowKit

theorem strides_mine {w : World} {A : Option Addr} {n c : Nat} {xs : List Int} (h : Ints w A n xs) (hr : Sh.right xs = true) :
    Calls Try.prog 30 #[.slice A n c] w fun e w' => MakesO w 3 (Sh.strides xs) e w' := by
  have := strides_own (c := c) h
  rwa [if_pos hr] at this
set_option maxRecDepth 100000 in
set_option maxHeartbeats 6400000 in
theorem path_any {w : World} {As Af At : Option Addr} {n cs cf ct : Nat} {s f st : List Int} (hS : Ints w As n s) (hF : Ints w Af n f) (hT : Ints w At n st) (hr : Sh.right s = true) (hf : Near f) (hst : Steps st) :
    Calls Try.prog 47 #[.slice As n cs, .slice Af n cf, .slice At n ct] w fun e w' => MakesO w 3 (pathL s f st) e w' := by
  have hn4 : n ≤ 4 := by have := (Sh.right_iff.1 hr).1; have := hS.len; omega
  obtain ⟨hsz0, hsz1⟩ := Sh.size_bd s
  obtain ⟨N, hN⟩ := Int.eq_ofNat_of_zero_le hsz0
  have C1 := size_any (c := cs) hS
  rw [hN] at C1
  have hN4 : N ≤ 4096 := by omega
  have HN := Lib.hid hN
  clear hN hsz0 hsz1
  have hm := run_make_noughts Try.underlying22 Try.infoInt (n := N) (by omega)
  have HLS := Lib.hid hS.len
  have HLF := Lib.hid hF.len
  have HLT := Lib.hid hT.len
  have HR := Lib.hid hr
  have HNF := Lib.hid hf
  have HST := Lib.hid hst
  have h2 := ((((Sep.nil w).old hT).old hF).old hS).noughts 3 N (by omega)
  clear hr hf hst hS hF hT
  go_enter Try.func47, Try.ntmps47
  go_upto_region 2 with (go_at_call 46; refine C1.mono ?_; rintro e w' ⟨rfl, rfl⟩)
  generalize w.alloc (.cells (noughts N) 3) = w3 at *
  have H := Lib.hid h2
  clear h2 hm C1
  go_wp2_with fail
  refine (strides_mine (H.out.oldInts 1 rfl) HR.out).mono ?_; rintro e4 w4 ⟨⟨v4, n4, rfl, hO⟩, hb4⟩
  obtain ⟨A4, c4, rfl, hc4, _, _⟩ := hO.form
  have hn : n4 = n := by have := hO.len; rw [Sh.strides_length] at this; have := HLS.out; omega
  subst hn
  replace H := Lib.hid (H.out.addOwn hb4 hO)
  clear hO hb4 hc4
  obtain ⟨T, hT⟩ : ∃ T, pathL s f st = T := ⟨_, rfl⟩
  have HTL := Lib.hid (show T.length = N by rw [← hT, pathL, gen_length]; have := HN.out; omega)
  have HAT := Lib.hid (show ∀ i : Nat, i < N → T[i]? = some (pathP s f st i) from fun i hi => by rw [← hT, pathL]; exact gen_at (by have := HN.out; omega))
  have HTQ := Lib.hid hT
  clear hT
  go_wp2_with fail
  go_loopw [19] (fun kv wr => ∃ i : Nat, kv = .int .i64 i ∧ i ≤ N ∧ Sep w wr [.own 3 (.slice A4 n4 c4) n4 (Sh.strides s), .own 3 (.slice (some ⟨w.heap.size, 0, none⟩) N N) N (mix T (List.replicate N 0) i), .ints As n4 s, .ints Af n4 f, .ints At n4 st]) (fun kv _ => N - (intOf kv).toNat)
  case atStart => exact ⟨0, rfl, by omega, by rw [mix_zero]; exact H.out⟩
  case round =>
    clear H
    obtain ⟨i, rfl, hi, hS⟩ := hrel
    have H := Lib.hid hS
    clear hS
    by_cases hli : i < N
    · have HIZ := Lib.hid (show (i : Int) < Sh.size s by have := HN.out; omega)
      have HM := Lib.hid (mix_rep (c := 0) HTL.out hli)
      have HPO := Lib.hid (Sh.size_pos (by omega : (0 : Int) ≤ i) HIZ.out)
      have hpo := placeOf_of HIZ.out
      obtain ⟨P, hP⟩ : ∃ P, addP (Sh.placeOf s i) f = P := ⟨_, rfl⟩
      have HPL := Lib.hid (show P.length = n4 by rw [← hP, addP_length (by rw [hpo.2.1]; have := HLF.out; have := HLS.out; omega), hpo.2.1]; exact HLS.out)
      have HPA := Lib.hid (show ∀ (k : Nat) (x y : Int), s[k]? = some x → f[k]? = some y → P[k]? = some (i / Sh.pd (s.drop (k + 1)) % x + y) from fun k x y hx hy => by rw [← hP, hpo.1]; exact addP_at (Sh.place_at hx) hy)
      have HPT := Lib.hid (show T[i]? = some (Sh.sm P st) by rw [HAT.out i hli, pathP, hP])
      have HPB := Lib.hid (show ∀ x ∈ P, 0 ≤ x ∧ x ≤ 64 from fun x hx => by
        obtain ⟨k, hk⟩ := List.getElem?_of_mem hx
        have hkl : k < n4 := by rw [← HPL.out]; exact (List.getElem?_eq_some_iff.1 hk).1
        obtain ⟨u, hu⟩ := getElem_of (l := s) (k := k) (by rw [HLS.out]; exact hkl)
        obtain ⟨v, hv⟩ := getElem_of (l := f) (k := k) (by rw [HLF.out]; exact hkl)
        rw [HPA.out k u v hu hv] at hk; injection hk with hk; subst hk
        have h1 := HPO.out.2 u (List.mem_of_getElem? hu)
        have h2 := HNF.out v (List.mem_of_getElem? hv)
        have h3 := Int.emod_nonneg ((i : Int) / Sh.pd (s.drop (k + 1))) (b := u) (by omega)
        have h4 := Int.emod_lt_of_pos ((i : Int) / Sh.pd (s.drop (k + 1))) (b := u) (by omega)
        omega)
      clear hpo hP
      go_wp2_with fail
      go_loopw [24] (fun kv wr => ∃ k : Nat, kv = .int .i64 k ∧ k ≤ n4 ∧ Sep w wr [.own 3 (.slice A4 n4 c4) n4 (Sh.strides s), .own 3 (.slice (some ⟨w.heap.size, 0, none⟩) N N) N ((mix T (List.replicate N 0) i).set i (Sh.sm (P.take k) (st.take k))), .ints As n4 s, .ints Af n4 f, .ints At n4 st]) (fun kv _ => n4 - (intOf kv).toNat)
      case atStart => exact ⟨0, rfl, by omega, by rw [List.take_zero, Sh.sm_nil_l, set_same_ HM.out]; exact H.out⟩
      case round =>
        clear H
        obtain ⟨k, rfl, hk, hS⟩ := hrel
        by_cases hlk : k < n4
        · obtain ⟨sa, x, hsA, _, hx, hcx, hfx⟩ := (hS.oldInts 2 rfl).at_ (k := k) hlk
          obtain ⟨fa, y, hfA, _, hy, hcy, hfy⟩ := (hS.oldInts 3 rfl).at_ (k := k) hlk
          obtain ⟨ta, z, htA, _, hz, hcz, hfz⟩ := (hS.oldInts 4 rfl).at_ (k := k) hlk
          obtain ⟨ga, S, hgA, _, hs4, hcs4, hfs4⟩ := ((hS.ownInts 0 rfl).2.2).at_ (k := k) hlk
          subst hsA
          subst hfA
          subst htA
          subst hgA
          have hS1 : S = Sh.pd (s.drop (k + 1)) := by have := Sh.strides_at hx; rw [hs4] at this; injection this
          have hpx := HPA.out k x y hx hy
          rw [← hS1] at hpx
          have hxd := HPO.out.2 x (List.mem_of_getElem? hx)
          have hyd := HNF.out y (List.mem_of_getElem? hy)
          have hzd := HST.out z (List.mem_of_getElem? hz)
          have hsd := Sh.strides_bd HR.out S (List.mem_of_getElem? hs4)
          have hsp : 0 < S := by rw [hS1]; exact pd_pos fun u hu => (HPO.out.2 u (List.mem_of_mem_drop hu)).1
          obtain ⟨hx1, hx2⟩ := hxd
          obtain ⟨hy1, hy2⟩ := hyd
          obtain ⟨hz1, hz2⟩ := hzd
          obtain ⟨hs1, hs2⟩ := hsd
          have hd0 : 0 ≤ (i : Int) / S := Int.ediv_nonneg (by omega) (by omega)
          have hd1 : (i : Int) / S ≤ 9223372036854775807 := Int.le_trans (Int.ediv_le_self _ (by omega)) (by omega)
          have hm0 : 0 ≤ (i : Int) / S % x := Int.emod_nonneg _ (by omega)
          have hm1 : (i : Int) / S % x < x := Int.emod_lt_of_pos _ (by omega)
          obtain ⟨V, hV⟩ : ∃ V, Sh.sm (P.take k) (st.take k) = V := ⟨_, rfl⟩
          have hVb := Sh.sm_bd (ps := P.take k) (ws := st.take k) (fun x hx => HPB.out x (List.mem_of_mem_take hx)) (fun x hx => HST.out x (List.mem_of_mem_take hx))
          rw [hV, List.length_take] at hVb
          have hVl : min k P.length ≤ 4 := by have := HPL.out; omega
          obtain ⟨hV0, hV1⟩ := hVb
          have hp0 : 0 ≤ (y + (i : Int) / S % x) * z := Int.mul_nonneg (by omega) hz1
          have hp1 : (y + (i : Int) / S % x) * z ≤ 64 * z := Int.mul_le_mul_of_nonneg_right (by omega) hz1
          have hci := (hS.own 1 rfl).cell (j := i) (x := V) (by rw [List.getElem?_set, if_pos rfl, if_pos (List.getElem?_eq_some_iff.1 HM.out).1, hV])
          have hfi := (hS.own 1 rfl).frozen i
          have hS2 := hS.store 1 i (x := V + (y + (i : Int) / S % x) * z) ⟨by omega, by omega⟩ rfl
          have hst := Sh.sm_take hpx hz
          rw [hV] at hst
          rw [show List.set ((mix T (List.replicate N 0) i).set i (Sh.sm (P.take k) (st.take k))) i (V + (y + (i : Int) / S % x) * z) = (mix T (List.replicate N 0) i).set i (Sh.sm (P.take (k + 1)) (st.take (k + 1))) by rw [List.set_set, hst, Int.add_comm y]] at hS2
          have HS2 := Lib.hid hS2
          have hw1 : IntKind.i64.wrap (y + (i : Int) / S % x) = y + (i : Int) / S % x := IntWalk.i64_in _ ⟨by omega, by omega⟩
          have hw2 : IntKind.i64.wrap ((y + (i : Int) / S % x) * z) = (y + (i : Int) / S % x) * z := IntWalk.i64_in _ ⟨by omega, by omega⟩
          have hw3 : IntKind.i64.wrap (V + (y + (i : Int) / S % x) * z) = V + (y + (i : Int) / S % x) * z := IntWalk.i64_in _ ⟨by omega, by omega⟩
          have hSn : ¬ S = 0 := by omega
          have hxn : ¬ x = 0 := by omega
          have hw4 : IntKind.i64.wrap ((i : Int) / S) = (i : Int) / S := IntWalk.i64_in _ ⟨by omega, by omega⟩
          have hw5 : IntKind.i64.wrap ((i : Int) / S % x) = (i : Int) / S % x := IntWalk.i64_in _ ⟨by omega, by omega⟩
          clear hS hS2 hst hx hy hz hs4 hS1 hpx hV hfx hfy hfz hfs4 hVl
          go_upto_region 9 with fail
          go_still_tail 24, (by kernel_rfl)
          change wpList _ _ _ _ _ wr.drew
          have hcz1 : wr.drew.cell? ⟨w.heap.size, i, none⟩ = some (.int .i64 V) := hci
          have hfz1 : wr.drew.frozen? ⟨w.heap.size, i, none⟩ = false := hfi
          have hcx1 : wr.drew.cell? (sa.add k) = some (.int .i64 x) := hcx
          have hcy1 : wr.drew.cell? (fa.add k) = some (.int .i64 y) := hcy
          have hct1 : wr.drew.cell? (ta.add k) = some (.int .i64 z) := hcz
          have hcs1 : wr.drew.cell? (ga.add k) = some (.int .i64 S) := hcs4
          go_wp2
          go_roundw
          case rel => exact ⟨k + 1, by go_num, by omega, HS2.out.drew⟩
          case measure => simp [intOf]; omega
        · have hkn : n4 = k := by omega
          subst hkn
          rw [show (mix T (List.replicate N 0) i).set i (Sh.sm (P.take n4) (st.take n4)) = mix T (List.replicate N 0) (i + 1) by rw [List.take_of_length_le (by have := HPL.out; omega), List.take_of_length_le (by have := HLT.out; omega)]; exact mix_step HTL.out HPT.out] at hS
          have H := Lib.hid hS
          clear hS
          go_wp2
          go_roundw
          case rel => exact ⟨i + 1, by go_num, by omega, H.out⟩
          case measure => simp [intOf]; omega
    · have hin : N = i := by omega
      subst hin
      rw [mix_end HTL.out] at H
      go_wp2
      go_ret
      rw [HTQ.out]
      exact ⟨⟨_, _, rfl, H.out.ownS 1 rfl⟩, H.out.base⟩
end Go.Proofs.Ythgpiimagbcmbaa
