/- The walk of NamesBack. -/
import Derived.Test.YtpceebpihojdcaaL9Known
import Derived.Test.YtpceebpihojdcaaKitApp
import Derived.Test.YtpceebpihojdcaaUtB
import Derived.Deep.DeepCutAuto
namespace Go.Proofs.Ytpceebpihojdcaa
open Go.RowKit

theorem within9_any (a : Int) (w : World) (hf : Fits a) :
    Calls Try.prog 9 #[.int .i64 a, .int .i64 (-1), .int .i64 2] w fun e w' => (∃ m, e = .returned (.int .i64 m) ∧ -1 ≤ m ∧ m ≤ 2) ∧ w = w' := by
  obtain ⟨h1, h2⟩ := hf
  by_cases h0 : -1 ≤ a
  · by_cases hb : a ≤ 2
    · go_enter Try.func9, Try.ntmps9
      go_wp2
      go_ret
      exact ⟨⟨_, rfl, h0, hb⟩, rfl⟩
    · go_enter Try.func9, Try.ntmps9
      have hm := Int.emod_nonneg a (b := 4) (by omega)
      have hm2 := Int.emod_lt_of_pos a (b := 4) (by omega)
      go_wp2
      go_ret
      exact ⟨⟨_, rfl, by omega, by omega⟩, rfl⟩
  · have hlt : a < 0 := by omega
    have hm : -4 < a.tmod 4 ∧ a.tmod 4 ≤ 0 := by
      have e : a = -(-a) := by omega
      rw [e, Int.neg_tmod, Int.tmod_eq_emod_of_nonneg (by omega : 0 ≤ -a)]
      omega
    obtain ⟨hm1, hm2⟩ := hm
    by_cases ht : a.tmod 4 < 0
    · go_enter Try.func9, Try.ntmps9
      go_wp2
      go_ret
      exact ⟨⟨_, rfl, by omega, by omega⟩, rfl⟩
    · go_enter Try.func9, Try.ntmps9
      go_wp2
      go_ret
      exact ⟨⟨_, rfl, by omega, by omega⟩, rfl⟩
theorem and3_9 (n : Int) : bits .and .i64 n 3 = n % 4 := by
  have h7 : (BitVec.ofInt 64 3).toNat = 2 ^ 2 - 1 := by decide
  have key : (BitVec.ofInt 64 n &&& BitVec.ofInt 64 3).toNat = (n % ((2 ^ 64 : Nat) : Int)).toNat % 2 ^ 2 := by
    rw [BitVec.toNat_and, BitVec.toNat_ofInt, h7, Nat.and_two_pow_sub_one_eq_mod]
  show IntKind.i64.wrap ((BitVec.ofInt 64 n &&& BitVec.ofInt 64 3).toNat : Nat) = n % 4
  rw [key, IntKind.wrap_i64]
  omega
theorem k9_nm : runesOf ⟨#[120, 195, 169, 228, 184, 150]⟩ = nm9 := by kernel_rfl
set_option maxRecDepth 100000 in
set_option maxHeartbeats 6400000 in
theorem back9_walk (w : World) (rank a b c : Int) (wide : Bool) (ha : Fits a) (hb : Fits b) (hc : Fits c) :
    Calls Try.prog 5 #[.int .i64 rank, .int .i64 a, .int .i64 b, .int .i64 c, .bool wide] w fun e w' => e = .returned (.bool true) ∧ Below w.heap.size w w' := by
  obtain ⟨K, hK, hK1, hK4⟩ : ∃ K : Nat, wrap64 (1 + bits .and .i64 rank 3) = (K : Int) ∧ 1 ≤ K ∧ K ≤ 4 := by
    rw [and3_9]
    refine ⟨(1 + rank % 4).toNat, ?_, by omega, by omega⟩
    unfold wrap64; omega
  have hL := ints_fresh w 3 #[.int .i64 a, .int .i64 b, .int .i64 c, .int .i64 (-1)] [a, b, c, -1] rfl (by intro u hu; simp at hu; rcases hu with rfl | rfl | rfl | rfl; exact ha; exact hb; exact hc; exact ⟨by omega, by omega⟩) 4 rfl (by omega)
  have hB := (Below.refl w.heap.size w).alloc (Nat.le_refl _) (.cells #[.int .i64 a, .int .i64 b, .int .i64 c, .int .i64 (-1)] 3)
  have hz : (w.alloc (.cells #[.int .i64 a, .int .i64 b, .int .i64 c, .int .i64 (-1)] 3)).heap.size = w.heap.size + 1 := by simp
  go_enter Try.func5, Try.ntmps5
  go_upto_region 2 with fail
  rw [hK]
  clear hK ha hb hc
  have hKi : (K : Int) ≤ 4 := by omega
  go_wp2_with fail
  generalize w.alloc (.cells #[.int .i64 a, .int .i64 b, .int .i64 c, .int .i64 (-1)] 3) = W at *
  obtain ⟨g, hg⟩ : ∃ g, w.heap.size = g := ⟨_, rfl⟩
  rw [hg] at hL hB hz ⊢
  have HG := Lib.hid hg
  have HL := Lib.hid hL
  have HB := Lib.hid hB
  have HZ := Lib.hid hz
  clear hg hL hB hz
  go_loopw [34, 12] (fun iv sv wr => ∃ (i : Nat) (S : List Int), iv = .int .i64 i ∧ i ≤ K ∧ OwnS wr (g + 1) 3 sv i S ∧ Spec9 S ∧ Below (g + 1) W wr) (fun iv _ _ => K - (intOf iv).toNat)
  case atStart => exact ⟨0, [], rfl, by omega, OwnS.nil_ _ _ _, .nil, Below.refl _ _⟩
  case round =>
    obtain ⟨i, S, rfl, hi, hO, hS, hb1⟩ := hrel
    obtain ⟨w1, rfl⟩ : ∃ w1 : World, w1 = wr := ⟨_, rfl⟩
    have HO := Lib.hid hO
    have HS := Lib.hid hS
    have HB1 := Lib.hid hb1
    obtain ⟨A, cp, rfl, hcp, hI, _⟩ := hO.form
    have HI := Lib.hid hI
    have HLN := Lib.hid hO.len
    clear hO hS hb1 hI
    by_cases hlt : i < K
    · have hd1 : decide ((i : Int) < (K : Int)) = true := by simp; omega
      obtain ⟨ad, n, e1, _, _, hcx, hfx⟩ := (HL.out.below (by rw [HZ.out]; exact HB1.out)).at_ (show i < 4 by omega)
      injection e1 with e1
      subst e1
      rw [Addr.add_lit, Nat.zero_add] at hcx
      have CW := within9_any n w1 hfx
      go_wp2_with fail
      refine CW.mono ?_; rintro e2 w2 ⟨⟨m0, rfl, hm0, hm2⟩, rfl⟩
      clear CW hcx hfx
      go_wp2_with fail
      go_loopw [42, 15] (fun jv mv wr => ∃ (j : Nat) (m : Int), jv = .int .i64 j ∧ mv = .int .i64 m ∧ j ≤ i ∧ -1 ≤ m ∧ m ≤ 2 ∧ (m = -1 ∨ m ∉ S.take j) ∧ w1 = wr) (fun jv _ _ => i - (intOf jv).toNat)
      case atStart => exact ⟨0, m0, rfl, rfl, by omega, hm0, hm2, .inr (by simp), rfl⟩
      case round =>
        clear hm0 hm2
        obtain ⟨j, m, rfl, rfl, hj, hm0, hm2, hm, rfl⟩ := hrel
        have HM := Lib.hid hm
        clear hm
        by_cases hlj : j < i
        · have hd2 : decide ((j : Int) < (i : Int)) = true := by simp; omega
          obtain ⟨ad, x, rfl, _, hx, hcx, hfx⟩ := HI.out.at_ hlj
          by_cases hxm : x = m
          · subst hxm
            have hx := Lib.hid hx
            have hd3 : (x == x) = true := by simp
            go_wp2
            go_roundw
            case rel => exact ⟨j + 1, -1, by go_num, rfl, by omega, by omega, by omega, .inl rfl, by trivial⟩
            case measure => simp [intOf]; omega
          · have HXM := Lib.hid (show m = -1 ∨ m ∉ S.take (j + 1) by
              rcases HM.out with h | h
              · exact .inl h
              · right; rw [List.take_add_one, hx]; simp; exact ⟨h, fun e => hxm e.symm⟩)
            have hd3 : (x == m) = false := by simpa using hxm
            clear hx hxm
            go_wp2
            go_roundw
            case rel => exact ⟨j + 1, m, by go_num, rfl, by omega, hm0, hm2, HXM.out, by trivial⟩
            case measure => simp [intOf]; omega
        · have hd2 : decide ((j : Int) < (i : Int)) = false := by simp; omega
          have HXM := Lib.hid (show m = -1 ∨ m ∉ S by
            rcases HM.out with h | h
            · exact .inl h
            · right; rwa [List.take_of_length_le (by have := HLN.out; omega)] at h)
          have HGW := Lib.hid (show g + 1 ≤ w1.heap.size by have := HB1.out.size; have := HZ.out; omega)
          go_wp2_with (at_builtin; refine wpList_append_int rfl (.tmp 52) (.tmp 54) 24 3 rfl Try.underlying24 Try.infoInt9 (g + 1) _ i S rfl HO.out HGW.out m ⟨by omega, by omega⟩ _ rfl ?c1 ?_)
          case c1 => omega
          intro v' w' h1 h2 h3
          have G1 := Lib.hid h1
          have G2 := Lib.hid h2
          clear h1 h2 h3
          go_wp2
          go_roundw
          case rel => exact ⟨i + 1, S ++ [m], by go_num, by omega, G1.out, .snoc HS.out hm0 hm2 HXM.out, HB1.out.trans G2.out⟩
          case measure => simp [intOf]; omega
    · obtain rfl : i = K := by omega
      have hd1 : decide ((i : Int) < (i : Int)) = false := by simp
      have CT := nText_any (w := w1) (s := ⟨#[120, 195, 169, 228, 184, 150]⟩) (c := cp) (by decide) HI.out (by omega)
      rw [k9_nm, text_sv9 S HS.out.bd] at CT
      go_wp2_with fail
      refine CT.mono ?_; rintro e2 w2 ⟨rfl, hb⟩
      obtain ⟨t, ht⟩ : ∃ t, runesBytes (S.map sv9) = t := ⟨_, rfl⟩
      rw [ht]
      have HRT := Lib.hid (show runesOf t = S.map sv9 by rw [← ht]; exact runes_bytes _ (by intro r hr; simp at hr; obtain ⟨x, _, rfl⟩ := hr; exact sv9_bd x))
      have HTT := Lib.hid ht
      have hgl : g ≤ w2.heap.size := by have := HB1.out.size; have := HZ.out; have := hb.size; omega
      replace HI := Lib.hid (HI.out.below hb)
      replace HB := Lib.hid ((HB.out.trans (HB1.out.mono (by omega))).trans (hb.mono (by have := HB1.out.size; have := HZ.out; omega)))
      clear CT hb ht HO HL HB1 HZ
      go_upto_if 59 with fail
      go_cut [17] (fun q wx => q = .string (runesBytes (runs9 wide (S.map sv9))) ∧ Ints wx A i S ∧ Below g w wx ∧ g ≤ wx.heap.size)
      case first =>
        cases wide with
        | false =>
          go_wp2_with fail
          go_meet
          exact ⟨by rw [← HTT.out]; rfl, HI.out, HB.out, hgl⟩
        | true =>
          have hi := World.iter_heap w2 t 0
          have hb : Below w2.heap.size w2 (w2.iter t 0) := (Below.refl _ _).alloc (Nat.le_refl _) _
          have hz : (w2.iter t 0).heap.size = w2.heap.size + 1 := by simp [World.iter]
          go_wp2_with fail
          generalize w2.iter t 0 = w3 at *
          have HI0 := Lib.hid hi
          have HB0 := Lib.hid hb
          clear hi hb hz
          go_loopw [18] (fun v wr => ∃ (pos : Nat) (dn : List Int), wr.heap[w2.heap.size]? = some (.stringIter t pos) ∧ v = .string (runesBytes (dn.flatMap (fun r => [32, r]))) ∧ dn ++ runesAt t t.size pos = S.map sv9 ∧ Below w2.heap.size w2 wr) (fun _ w' => t.size - w'.iterPos w2.heap.size)
          case atStart => exact ⟨0, [], HI0.out, rfl, by rw [← HRT.out]; rfl, HB0.out⟩
          case round =>
            clear HI0 HB0
            obtain ⟨pos, dn, hi, rfl, hx, hB⟩ := hrel
            have HBI := Lib.hid hB
            have HII := Lib.hid hi
            have hkl : w2.heap.size < wr.heap.size := by
              rcases Nat.lt_or_ge w2.heap.size wr.heap.size with hl | hl
              · exact hl
              · rw [Array.getElem?_eq_none hl] at hi; cases hi
            have hdl : dn.length ≤ 4 := by
              have := congrArg List.length hx
              rw [List.length_append, List.length_map] at this
              have := HLN.out; omega
            have hsz := runesBytes_size_le (dn.flatMap (fun r => [32, r]))
            have hfl : (dn.flatMap (fun r => [32, r])).length ≤ 8 := by
              have h := runs9_len true dn
              simp only [runs9, if_true, List.length_append] at h
              simp at h ⊢; omega
            obtain ⟨F, hF⟩ : ∃ F, runesBytes (dn.flatMap (fun r => [32, r])) = F := ⟨_, rfl⟩
            rw [hF] at hsz ⊢
            have HF := Lib.hid hF
            have h1z : (⟨#[32]⟩ : ByteArray).size = 1 := rfl
            clear hF
            by_cases hlt2 : pos < t.size
            · have hnx := fun ty => run_next_at (P := Try.prog) hi hlt2 ty
              have hg := iterAt_grown (w := wr) (s := t) (k := w2.heap.size) (pos := pos + (Utf8.decode t pos).2)
              have hi2 := iterAt_heap (w := wr) (s := t) (pos := pos + (Utf8.decode t pos).2) hkl
              have hB2 := below_of_grown hB (by omega) hg (Nat.le_refl _)
              have hw := decode_width t pos hlt2
              have hst := runesAt_step t hlt2
              generalize iterAt_ wr w2.heap.size t (pos + (Utf8.decode t pos).2) = w4 at *
              have HI2 := Lib.hid hi2
              have HB2 := Lib.hid hB2
              have HST := Lib.hid hst
              have HX := Lib.hid hx
              clear hi hg hi2 hB2 hst hx hB
              generalize hdr : (Utf8.decode t pos).1 = dr at *
              generalize hdw : (Utf8.decode t pos).2 = dw at *
              clear hdr hdw
              have sm1 : F.size + (⟨#[32]⟩ : ByteArray).size ≤ 9223372036854775807 := by omega
              have sm2 : (F ++ ⟨#[32]⟩).size + (Utf8.encode (dr : Int)).size ≤ 9223372036854775807 := by have := encode_size_le (dr : Int); rw [ByteArray.size_append]; omega
              have HQ := Lib.hid (show (F ++ ⟨#[32]⟩) ++ Utf8.encode (dr : Int) = runesBytes ((dn ++ [(dr : Int)]).flatMap (fun r => [32, r])) by
                rw [List.flatMap_append, bytes_append, HF.out, show ([(dr : Int)].flatMap (fun r => [32, r])) = [32, (dr : Int)] from rfl, bytes_cons, bytes_cons, show runesBytes [] = ByteArray.empty from rfl, ByteArray.append_empty, ByteArray.append_assoc, show Utf8.encode 32 = ⟨#[32]⟩ from by kernel_rfl])
              go_wp2_with fail
              rw [HQ.out]
              go_roundw
              case rel => exact ⟨pos + dw, dn ++ [(dr : Int)], HI2.out, rfl, by rw [← HX.out, HST.out]; simp, HB2.out⟩
              case measure => rw [iterPos_at HI2.out, iterPos_at HII.out]; omega
            · have hnx := fun ty => run_next_over (P := Try.prog) hi hlt2 ty
              have HD := Lib.hid (show dn = S.map sv9 by rw [← hx, runesAt_end t hlt2, List.append_nil])
              have sm1 : F.size + (⟨#[32]⟩ : ByteArray).size ≤ 9223372036854775807 := by omega
              clear hi hx hB
              go_wp2_with fail
              go_meet
              exact ⟨by
                rw [← HF.out, HD.out]
                show Value.string _ = Value.string (runesBytes ((S.map sv9).flatMap (fun r => [32, r]) ++ [32]))
                rw [bytes_append, bytes_cons 32 [], show runesBytes [] = ByteArray.empty from rfl, ByteArray.append_empty, show Utf8.encode 32 = ⟨#[32]⟩ from by kernel_rfl], HI.out.below HBI.out, HB.out.trans (HBI.out.mono hgl), Nat.le_trans hgl HBI.out.size⟩
      case rest =>
        obtain ⟨rfl, hI, hB, hgl2⟩ := hcut
        clear HB HI HRT HTT
        have CN := nNote_any (w := wc) (s := ⟨#[120, 195, 169, 228, 184, 150]⟩) (t := runesBytes (runs9 wide (S.map sv9))) (i : Int) (by decide) (by have h1 := runesBytes_size_le (runs9 wide (S.map sv9)); have h2 := runs9_len wide (S.map sv9); rw [List.length_map] at h2; have := HLN.out; omega)
        rw [k9_nm, back9 HS.out wide HLN.out (by omega) hK4] at CN
        have HI := Lib.hid hI
        have HB := Lib.hid hB
        clear hI hB
        go_wp2_with fail
        refine CN.mono ?_; rintro e3 x1 ⟨⟨v1, m1, rfl, hO1⟩, hb⟩
        obtain ⟨A1, c1, rfl, _, hI1, _⟩ := hO1.form
        have I1 := Lib.hid hI1
        replace HI := Lib.hid (HI.out.below hb)
        replace HB := Lib.hid (HB.out.trans (hb.mono hgl2))
        have HGS := Lib.hid (Nat.le_trans hgl2 hb.size)
        clear hO1 hI1 hb CN
        go_wp2_with fail
        refine (bookSame9_eq I1.out HI.out).mono ?_; rintro e4 x2 ⟨rfl, q, rfl⟩
        replace HB := Lib.hid (below_drewN HB.out q)
        go_wp2_with fail
        refine (l9known_any _).mono ?_; rintro e5 x3 ⟨rfl, hb⟩
        go_wp2
        go_ret
        exact ⟨rfl, by rw [HG.out]; exact HB.out.trans (hb.mono HGS.out)⟩
end Go.Proofs.Ytpceebpihojdcaa
