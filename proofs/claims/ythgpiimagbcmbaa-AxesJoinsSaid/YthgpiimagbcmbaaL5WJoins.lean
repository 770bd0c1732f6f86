/- The walk of the law AxesJoins. -/
import Derived.Test.YthgpiimagbcmbaaL5Known
import Derived.Test.YthgpiimagbcmbaaAxK
import Derived.Test.YthgpiimagbcmbaaRowS
import Derived.Test.YthgpiimagbcmbaaBox
import Derived.Test.YthgpiimagbcmbaaRef4B
import Derived.Test.YthgpiimagbcmbaaSepB
import Derived.Test.YthgpiimagbcmbaaKitReg
namespace Go.Proofs.Ythgpiimagbcmbaa
open Go.RowKit

set_option maxRecDepth 100000 in
set_option maxHeartbeats 12800000 in
theorem ajoins_walk {w : World} {A0 : Option Addr} {n0 c0 : Nat} {x0 : List Int} (a : Int) (h0 : Ints w A0 n0 x0) (ha : Fits a) :
    Calls Try.prog 6 #[.slice A0 n0 c0, .int .i64 a] w fun e w' => e = .returned (.bool true) ∧ Below w.heap.size w w' := by
  have q0 := Below.refl w.heap.size w
  have hT := tape_new (c := c0) (h0.below q0)
  have hz1 : (w).heap.size = w.heap.size := by simp
  skip
  have s1 := Sep.startTape hz1 hT
  clear hT
  go_enter Try.func6, Try.ntmps6
  go_upto_region 2 with fail
  generalize (w).alloc (.cells #[.slice A0 n0 c0, .int .i64 0] 28) = v at *
  have HQ := Lib.hid q0
  have HZ1 := Lib.hid hz1
  have H := Lib.hid s1
  skip
  clear s1 hz1 q0 h0
  have HFA := Lib.hid ha
  clear ha
  go_wp2_with fail
  refine (next_any 4 (H.out.tape 0 rfl) ⟨by omega, by omega⟩).mono ?_; rintro e1 w1 ⟨⟨r1, rfl, hr0, hr1⟩, hR⟩
  replace H := Lib.hid (H.out.read 0 rfl hR)
  have hr3 : r1 ≤ 3 := by omega
  clear hR hr1
  have H5 := Lib.hid (H.out.lit 3 #[.int .i64 r1] [r1] 1 w1.heap.size rfl rfl (by simp [litOk]; omega))
  go_wp2_with fail
  refine (tapeShape_any (H5.out.tape 1 rfl)).mono ?_; rintro e2 w2 ⟨⟨v, n2, s2, rfl, hO, hn2, hsh⟩, hR⟩
  obtain ⟨A2, c2, rfl, hc2, _, _⟩ := hO.form
  have H6 := Lib.hid (H5.out.readOwn 1 rfl hR hO)
  clear hO hR hsh H5
  go_wp2_with (at_builtin; refine wpList_appends_sep rfl (.tmp 23) (.tmp 25) 22 3 rfl Try.underlying22 Try.infoInt H6.out 1 rfl rfl A2 n2 c2 s2 rfl ((H6.out.ownInts 0 rfl).2.2) ?c1 ?_)
  case c1 => omega
  intro v3 w3 h3
  obtain ⟨A3, c3, hv, hc3, _, _⟩ := (h3.ownS 1 rfl).form
  subst hv
  replace H := Lib.hid h3.tail_
  clear h3 H6
  go_upto_if 29 with fail
  go_cut [6] (fun v wx => ∃ (As : Option Addr) (ns cs : Nat) (s : List Int), v = .slice As ns cs ∧ 1 ≤ ns ∧ ns ≤ 3 ∧ Sep w wx [.own 3 (.slice As ns cs) ns s, .tape w.heap.size])
  case first =>
    by_cases h4 : 1 + n2 ≤ 3
    · go_wp2_with fail
      go_meet
      exact ⟨A3, 1 + n2, c3, _, rfl, by omega, by omega, H.out⟩
    · go_wp2_with fail
      go_meet
      exact ⟨A3, 3, c3, _, rfl, by omega, by omega, H.out.takeOwn 0 rfl (by omega) (by omega)⟩
  case rest =>
    obtain ⟨As, ns, cs, s, rfl, hn1, hn3, hS⟩ := hcut
    replace H := Lib.hid hS
    clear hS hc3 hc2 hn2
    have Ls := Lib.hid ((H.out.ownInts 0 rfl).2.2).len
    go_upto_region 5 with fail
    go_cut [7] (fun q wx => ∃ k : Nat, q = .int .i64 k ∧ k < ns ∧ wc = wx)
    case first =>
      obtain ⟨hf1, hf2⟩ := HFA.out
      by_cases g0 : 0 ≤ a
      · have q1 := Int.emod_nonneg a (b := (ns : Int)) (by omega)
        have q2 := Int.emod_lt_of_pos a (b := (ns : Int)) (by omega)
        have q3 := Int.emod_nonneg (a % (ns : Int) + ns) (b := (ns : Int)) (by omega)
        have q4 := Int.emod_lt_of_pos (a % (ns : Int) + ns) (b := (ns : Int)) (by omega)
        go_wp2_with fail
        go_meet
        exact ⟨((a % (ns : Int) + ns) % (ns : Int)).toNat, by rw [Int.toNat_of_nonneg q3]; try simp, by omega, rfl⟩
      · have q := tmod_bd_ (a := a) (L := ns) (by omega) (by omega)
        obtain ⟨q1, q2⟩ := q
        have q3 := Int.emod_nonneg (a.tmod (ns : Int) + ns) (b := (ns : Int)) (by omega)
        have q4 := Int.emod_lt_of_pos (a.tmod (ns : Int) + ns) (b := (ns : Int)) (by omega)
        go_wp2_with fail
        go_meet
        exact ⟨((a.tmod (ns : Int) + ns) % (ns : Int)).toNat, by rw [Int.toNat_of_nonneg q3]; try simp, by omega, rfl⟩
    case rest =>
      obtain ⟨k, rfl, hk, rfl⟩ := hcut
      go_wp2_with fail
      refine (next_any 4 (H.out.tape 1 rfl) ⟨by omega, by omega⟩).mono ?_; rintro e4 w4 ⟨⟨r4, rfl, hr4, hr5⟩, hR⟩
      replace H := Lib.hid ((H.out.read 1 rfl hR).addRowNil 25 2)
      obtain ⟨rn, rfl⟩ := Int.eq_ofNat_of_zero_le hr4
      have hrn : rn ≤ 3 := by omega
      have hwr : IntKind.i64.wrap (1 + (rn : Int)) = ((1 + rn : Nat) : Int) := by rw [show (1 : Int) + (rn : Int) = ((1 + rn : Nat) : Int) by omega]; exact IntWalk.i64_in _ ⟨by omega, by omega⟩
      clear hR hr4 hr5
      go_wp2_with fail
      go_loopw [9, 8] (fun nv lv wr => ∃ (r : Nat) (L : TL) (us : List Value) (pool : List Chunk) (lx : Value), lx = lv ∧ nv = .int .i64 r ∧ r + L.length ≤ 4 ∧ 1 ≤ r + L.length ∧ Pool us L pool ∧ (∀ t ∈ L, t.1.length = ns) ∧ Sep w wr (.row 25 2 lx L.length us :: .own 3 (.slice As ns cs) ns s :: .tape w.heap.size :: pool)) (fun nv _ _ => (intOf nv).toNat)
      case atStart => exact ⟨1 + rn, [], [], [], _, rfl, rfl, by rw [List.length_nil]; omega, by rw [List.length_nil]; omega, pool_nil, by simp, H.out⟩
      case round =>
        clear H hwr
        obtain ⟨r, L, us, pool, lx, rfl, rfl, hr1, hr2, hP, hL, hS⟩ := hrel
        have HP := Lib.hid hP
        have HL := Lib.hid hL
        have H := Lib.hid hS
        clear hP hL hS
        by_cases hr0 : 0 < r
        · have H5 := Lib.hid (H.out.empty 3)
          go_wp2_with (at_builtin; refine wpList_appends_sep rfl (.tmp 49) (.tmp 50) 22 3 rfl Try.underlying22 Try.infoInt H5.out 0 rfl rfl As ns cs s rfl ((H5.out.ownInts 2 rfl).2.2) ?c1 ?_)
          case c1 => omega
          intro vo w6 h6
          replace H := Lib.hid (h6.recast (l' := .own 3 vo ns s :: .row 25 2 lx L.length us :: .own 3 (.slice As ns cs) ns s :: .tape w.heap.size :: pool) (by simp))
          clear h6 H5
          obtain ⟨go, co, hv, _⟩ := (H.out.ownS 0 rfl).own (by omega)
          subst hv
          go_wp2_with fail
          refine (next_any 4 (H.out.tape 3 rfl) ⟨by omega, by omega⟩).mono ?_; rintro e5 w5 ⟨⟨y, rfl, hy0, hy1⟩, hR⟩
          replace H := Lib.hid (H.out.read 3 rfl hR)
          have hy3 : y ≤ 3 := by omega
          clear hR hy1
          obtain ⟨z, hz⟩ := getElem_of (l := s) (k := k) (by have := Ls.out; omega)
          have hcz := (H.out.own 0 rfl).cell hz
          have hfz := (H.out.own 0 rfl).frozen k
          have h7 := H.out.store 0 k (x := y) ⟨by omega, by omega⟩ rfl
          go_upto_region 12 with fail
          generalize w5.setCell ⟨go, k, none⟩ (.int .i64 y) = w7 at *
          clear hcz hfz hz
          replace H := Lib.hid h7
          clear h7
          go_wp2_with fail
          refine (tapeTensor_any (c := co) (H.out.tape 3 rfl) ((H.out.ownInts 0 rfl).2.2) (by omega)).mono ?_; rintro e8 w8 ⟨⟨v, d8, rfl, hOT, hdl⟩, hR⟩
          obtain ⟨vs, vd, n8, m8, rfl, ho1, ho2⟩ := hOT
          obtain ⟨S8, k8, rfl, _, _, _⟩ := ho1.form
          obtain ⟨D8, j8, rfl, _, _, _⟩ := ho2.form
          replace H := Lib.hid (H.out.readOwn2 3 rfl hR ho1 ho2 (Ne.symm ty_ne.1))
          clear ho1 ho2 hR hdl
          go_wp2_with (at_builtin; refine wpList_append_ten rfl (.tmp 57) (.tmp 61) 32 rfl Try.underlying32 H.out 3 rfl rfl _ rfl ?c1 ?_)
          case c1 => omega
          intro v9 w9 h9
          have h10 := (Sep.perm h9 (l' := [.own 3 (.slice (some ⟨go, 0, none⟩) ns co) ns (s.set k y), .row 25 2 v9 (L.length + 1) (us ++ [.slice S8 n8 k8, .slice D8 m8 j8]), .own 3 (.slice As ns cs) ns s, .tape w.heap.size] ++ ([.own 3 (.slice S8 n8 k8) n8 (s.set k y), .own 2 (.slice D8 m8 j8) m8 d8] ++ pool)) (by rw [← List.append_assoc]; exact (List.perm_append_comm (l₁ := [.own 3 (.slice S8 n8 k8) n8 (s.set k y), .own 2 (.slice D8 m8 j8) m8 d8]) (l₂ := [_, _, _, _])).append_right pool)).tail_
          have HS := Lib.hid h10
          clear h9 h10
          go_wp2
          go_roundw
          case rel => exact ⟨r - 1, L ++ [(s.set k y, d8)], us ++ [.slice S8 n8 k8, .slice D8 m8 j8], .own 3 (.slice S8 n8 k8) n8 (s.set k y) :: .own 2 (.slice D8 m8 j8) m8 d8 :: pool, _, rfl, by go_num, by rw [List.length_append, List.length_singleton]; omega, by rw [List.length_append, List.length_singleton]; omega, HP.out.more, fun t ht => by
            rcases List.mem_append.1 ht with ht | ht
            · exact HL.out t ht
            · rw [List.mem_singleton.1 ht, List.length_set]; exact Ls.out, by rw [List.length_append]; exact HS.out⟩
          case measure => simp [intOf]; omega
        · have hr00 : r = 0 := by omega
          subst hr00
          obtain ⟨g, c, hv, hnc⟩ := H.out.rowForm 0 rfl (by omega)
          subst hv
          obtain ⟨n, hn⟩ : ∃ n, L.length = n := ⟨_, rfl⟩
          have hS := H.out
          rw [hn] at hS hnc hr1 hr2 ⊢
          have HLN := Lib.hid hn
          have hT := pool_tens hS HP.out HLN.out (by omega) 2 (fun i => rfl)
          have HI := Lib.hid (hS.ownInts 1 rfl).2.2
          have HBASE := Lib.hid hS.base
          obtain ⟨w9, rfl⟩ : ∃ w9 : World, w9 = wr := ⟨_, rfl⟩
          have HT := Lib.hid hT
          clear H hS hT hn HP
          have H := Lib.hid (Sep.nil w9)
          obtain ⟨t0, ht0⟩ := getElem_of (l := L) (k := 0) (by have := HLN.out; omega)
          have hl0 := HL.out t0 (List.mem_of_getElem? ht0)
          have HHD := Lib.hid (show (head1 L).length = ns by cases hl : L with | nil => rw [hl] at ht0; simp at ht0 | cons u r => rw [hl] at ht0; simp at ht0; rw [← ht0] at hl0; exact hl0)
          have HAX := Lib.hid (show axOk (k : Int) L from ⟨t0, ht0, by omega, by omega⟩)
          clear ht0 hl0
          obtain ⟨je, js, jd, hj⟩ : ∃ a b c, joinR (k : Int) L = (a, b, c) := ⟨_, _, _, rfl⟩
          have HJ := Lib.hid hj
          have C0 := axJoin_any (c := c) (k : Int) HT.out hnc
          rw [hj] at C0
          go_wp2_with fail
          refine C0.mono ?_; rintro e0 w0 ⟨⟨u, rfl, hu⟩, hb⟩
          obtain ⟨Sa, na, ca, Da, ma, da, rfl, _, _, _, _, _, h5⟩ := H.out.addTen hb hu
          have h6 := h5.allocBox w0.heap.size 25 [.slice Sa na ca, .slice Da ma da] rfl
          clear C0 hu hb h5 
          go_upto_region 14 with fail
          generalize w0.alloc (.cells #[.slice Sa na ca, .slice Da ma da] 25) = v0 at *
          generalize w0.heap.size = ga at *
          replace H := Lib.hid h6
          clear h6
          clear hj
          by_cases hJO : allRight L ∧ JoinOk k L
          rotate_left
          · have hje : je = 13 := by
              have h := HJ.out
              by_cases hA : allRight L
              · rw [joinR_shape hA HAX.out (fun hk => hJO ⟨hA, hk⟩)] at h; injection h with h _; exact h.symm
              · rw [joinR_right hA] at h; injection h with h _; exact h.symm
            subst hje
            clear hJO
            go_wp2_with fail
            refine (l5known_any _).mono ?_; rintro e19 w19 ⟨rfl, hb⟩
            replace H := Lib.hid (H.out.below hb)
            clear hb
            go_wp2
            go_ret
            exact ⟨rfl, then_ HBASE.out H.out.base⟩
          obtain ⟨hA, hK⟩ := hJO
          have h := HJ.out
          rw [joinR_ok hA HAX.out hK] at h
          injection h with e1 e2
          injection e2 with e2 e3
          subst e1
          subst e2
          subst e3
          have HAR := Lib.hid hA
          have HJO := Lib.hid hK
          clear hA hK
          change Hid (Sep w9 _ [.box ga 25 [.slice Sa na ca, .slice Da ma da], .own 3 (.slice Sa na ca) na (joinS k L), .own 2 (.slice Da ma da) ma (joinUp k L L.length)]) at H
          have HJL := Lib.hid (show (joinS k L).length = ns by rw [joinS_length]; exact HHD.out)
          go_wp2_with fail
          go_loopw [78, 13] (fun iv av wx => ∃ i : Nat, iv = .int .i64 i ∧ i ≤ n ∧ av = .int .i64 (tot k (L.take i)) ∧ Sep w9 wx [.box ga 25 [.slice Sa na ca, .slice Da ma da], .own 3 (.slice Sa na ca) na (joinS k L), .own 2 (.slice Da ma da) ma (joinUp k L L.length)]) (fun iv _ _ => n - (intOf iv).toNat)
          case atStart => exact ⟨0, rfl, by omega, by simp [tot], H.out⟩
          case round =>
            clear H
            obtain ⟨i, rfl, hile, rfl, hS⟩ := hrel
            have H := Lib.hid hS
            clear hS
            by_cases hli : i < n
            · obtain ⟨t, ht⟩ := getElem_of (l := L) (k := i) (by have := HLN.out; omega)
              obtain ⟨ad, S, sn, sc, D, dn, dc, hA, hbl, q0, q1, hten⟩ := HT.out.2.2 i t ht
              injection hA with hA
              subst hA
              rw [addr0] at q0 q1
              have HE := Lib.hid ht
              have HQ0 := Lib.hid q0
              have HQ1 := Lib.hid q1
              have HTE := Lib.hid hten
              have htl := HL.out t (List.mem_of_getElem? ht)
              clear ht q0 q1 hten
              have hsn : ns = sn := by have := (ten_ints HTE.out).1.len; omega
              subst hsn
              obtain ⟨htb0, htb1⟩ := tot_bd HAR.out k i
              rw [HLN.out] at htb1
              obtain ⟨T1, hT1⟩ : ∃ z, tot k (L.take i) = z := ⟨_, rfl⟩
              have HT1 := Lib.hid hT1
              rw [hT1] at htb0 htb1
              rw [show Value.int .i64 (tot k (L.take i)) = Value.int .i64 T1 by rw [hT1]]
              clear hT1
              have hcu := (join_cut HAR.out HJO.out (by have := HHD.out; omega) HE.out).2
              rw [HHD.out, HT1.out] at hcu
              have HCUT := Lib.hid hcu
              clear hcu
              have hm := run_make_noughts Try.underlying22 Try.infoInt (n := ns) (by omega)
              have h3 := H.out.noughts 3 ns (by omega)
              go_upto_region 21 with fail
              generalize wr.alloc (.cells (noughts ns) 3) = w10 at *
              generalize wr.heap.size = gf at *
              replace H := Lib.hid h3
              clear h3 hm
              have hck : (List.replicate ns 0 : List Int)[k]? = some 0 := by rw [List.getElem?_replicate, if_pos hk]
              have hcf := (H.out.own 0 rfl).cell hck
              have hff := (H.out.own 0 rfl).frozen k
              have h7 := H.out.store 0 k (x := T1) ⟨by omega, by omega⟩ rfl
              go_upto_region 22 with fail
              generalize w10.setCell ⟨gf, k, none⟩ (.int .i64 T1) = w11 at *
              clear hcf hff hck
              replace H := Lib.hid h7
              clear h7
              have a0 := H.out.cell 1 0 rfl rfl
              have a1 := H.out.cell 1 1 rfl rfl
              have q0 := H.out.oldCell (p := ⟨g, i * 2, none⟩) hbl HQ0.out
              go_cut [16, 17] (fun u v wx => ∃ (gw : Nat) (S7 : Option Addr) (n7 c7 : Nat) (D7 : Option Addr) (m7 d7 : Nat), u = .pointer (some ⟨gw, 0, none⟩) ∧ v = .int .i64 0 ∧ Sep w9 wx (.box gw 25 [.slice S7 n7 c7, .slice D7 m7 d7] :: .own 3 (.slice S7 n7 c7) n7 t.1 :: .own 2 (.slice D7 m7 d7) m7 t.2 :: [.own 3 (.slice (some ⟨gf, 0, none⟩) ns ns) ns ((List.replicate ns 0 : List Int).set k T1), .box ga 25 [.slice Sa na ca, .slice Da ma da], .own 3 (.slice Sa na ca) na (joinS k L), .own 2 (.slice Da ma da) ma (joinUp k L L.length)]))
              case first =>
                have H0 := Lib.hid H.out.drew
                have ka0 := fun o => alloc_keep o a0
                have ka1 := fun o => alloc_keep o a1
                have kq0 := fun o => alloc_keep o q0
                go_region_held3 (fun w' => w'.cell? ⟨ga, 0, none⟩ = some (.slice Sa na ca) ∧ w'.cell? ⟨ga, 1, none⟩ = some (.slice Da ma da) ∧ w'.cell? ⟨g, i * 2, none⟩ = some (.slice S ns sc)) (go_keep)
                  (first
                    | (have h10 := (H.out.allocBox w11.heap.size 25 [.slice none 0 0, .slice none 0 0] rfl).drew; go_at_call 15; have CC := axSlice_any (cf := ns) (cz := sc) (ten_mk (h10.ownInts 3 rfl).2.2 (h10.ownInts 3 rfl).2.1 (h10.ownInts 4 rfl).2.2 (h10.ownInts 4 rfl).2.1) ((h10.ownInts 1 rfl).2.2) ((ten_ints (h10.oldTen HTE.out)).1); rw [HCUT.out] at CC; (with_reducible refine CC.mono ?_); clear CC; rintro e12 w12 ⟨⟨u12, rfl, hu⟩, hb⟩; obtain ⟨S7, n7, c7, D7, m7, d7, rfl, _, _, _, _, _, h12⟩ := h10.addTen hb hu; have H9 := Lib.hid h12; clear hu hb h12; have x0 := H9.out.cell 4 0 rfl rfl; have x1 := H9.out.cell 4 1 rfl rfl; have xq := H9.out.oldCell (p := ⟨g, i * 2, none⟩) hbl HQ0.out; have fb0 := H9.out.frozenBox 2 0 rfl; have fb1 := H9.out.frozenBox 2 1 rfl; have cb0 := H9.out.cell 2 0 rfl rfl; have cb1 := H9.out.cell 2 1 rfl rfl; have h14 := (H9.out.setBox 2 0 (.slice S7 n7 c7) rfl).setBox 2 1 (.slice D7 m7 d7) rfl; have z0 := h14.cell 4 0 rfl rfl; have z1 := h14.cell 4 1 rfl rfl; have zq := h14.oldCell (p := ⟨g, i * 2, none⟩) hbl HQ0.out; clear h14 h10)
                    | (go_at_call 15; have CC := axSlice_any (cf := ns) (cz := sc) (ten_mk (H0.out.ownInts 2 rfl).2.2 (H0.out.ownInts 2 rfl).2.1 (H0.out.ownInts 3 rfl).2.2 (H0.out.ownInts 3 rfl).2.1) ((H0.out.ownInts 0 rfl).2.2) ((ten_ints (H0.out.oldTen HTE.out)).1); rw [HCUT.out] at CC; (with_reducible refine CC.mono ?_); clear CC; rintro e12 w12 ⟨⟨u12, rfl, hu⟩, hb⟩; obtain ⟨S7, n7, c7, D7, m7, d7, rfl, _, _, _, _, _, h12⟩ := H0.out.addTen hb hu; have H7 := Lib.hid h12; clear hu hb h12; have x0 := H7.out.cell 3 0 rfl rfl; have x1 := H7.out.cell 3 1 rfl rfl; have xq := H7.out.oldCell (p := ⟨g, i * 2, none⟩) hbl HQ0.out; have h13 := (H7.out.allocBox w12.heap.size 25 [.slice none 0 0, .slice none 0 0] rfl); have y0 := h13.cell 4 0 rfl rfl; have y1 := h13.cell 4 1 rfl rfl; have yq := h13.oldCell (p := ⟨g, i * 2, none⟩) hbl HQ0.out; have h14 := (h13.setBox 0 0 (.slice S7 n7 c7) rfl).setBox 0 1 (.slice D7 m7 d7) rfl; have z0 := h14.cell 4 0 rfl rfl; have z1 := h14.cell 4 1 rfl rfl; have zq := h14.oldCell (p := ⟨g, i * 2, none⟩) hbl HQ0.out; clear h13 h14))
                all_goals go_wp2_with fail
                all_goals go_meet
                · exact ⟨w12.heap.size, S7, n7, c7, D7, m7, d7, rfl, rfl, H7.out.allocBox w12.heap.size 25 [.slice S7 n7 c7, .slice D7 m7 d7] rfl⟩
                · exact ⟨w11.heap.size, S7, n7, c7, D7, m7, d7, rfl, rfl, ((H9.out.setBox 2 0 (.slice S7 n7 c7) rfl).setBox 2 1 (.slice D7 m7 d7) rfl).sub [2, 0, 1, 3, 4, 5, 6] rfl (by decide)⟩
              case rest =>
                obtain ⟨gw, S7, n7, c7, D7, m7, d7, rfl, rfl, hS⟩ := hcut
                clear a0 a1 q0
                replace H := Lib.hid hS
                clear hS
                go_upto_region 23 with fail
                have H0 := Lib.hid H.out.drew
                have b0 := H0.out.cell 0 0 rfl rfl
                have b1 := H0.out.cell 0 1 rfl rfl
                have q0 := H0.out.oldCell (p := ⟨g, i * 2, none⟩) hbl HQ0.out
                have q1 := H0.out.oldCell (p := ⟨g, i * 2 + 1, none⟩) hbl HQ1.out
                refine wp_region_held_drew (S := (fun w' => w'.cell? ⟨gw, 0, none⟩ = some (.slice S7 n7 c7) ∧ w'.cell? ⟨gw, 1, none⟩ = some (.slice D7 m7 d7) ∧ w'.cell? ⟨g, i * 2, none⟩ = some (.slice S ns sc) ∧ w'.cell? ⟨g, i * 2 + 1, none⟩ = some (.slice D dn dc))) (by kernel_rfl) ?_ (fun hHeld => ?_)
                · exact ⟨b0, b1, q0, q1⟩
                first | (refine takeU (i := 0) (oi := { dst := some 99, op := Op.move (Operand.tmp 17), type := 36, pos := "law.go:190", after := #[], guard := none }) rfl (by kernel_rfl) (by kernel_rfl) (by kernel_rfl) (fun _ _ _ h => h) ?_ hHeld ?_; (focus rfl)) | (refine takeW (i := 0) (oi := { dst := some 99, op := Op.move (Operand.tmp 17), type := 36, pos := "law.go:190", after := #[], guard := none }) ?_ rfl (by kernel_rfl) (by kernel_rfl) (by kernel_rfl) (fun _ _ _ h => h) ?_ ?_ hHeld ?_; rotate_left; (focus rfl); (focus (intro wq hSq; obtain ⟨s0, s1, s2, s3⟩ := hSq; (first | (go_simp; done) | (go_simp; with_reducible rfl)))))
                try simp only [Act.put, List.setIfInBounds_toArray, List.set_cons_zero, List.set_cons_succ]
                first | (refine takeU (i := 1) (oi := { dst := some 100, op := Op.binOp BinOp.neq 36 (Operand.tmp 99) (Operand.const (Value.int IntKind.i64 0)) 36, type := 4, pos := "law.go:190", after := #[{ on := 0, ground := Ground.data }], guard := none }) rfl (by kernel_rfl) (by kernel_rfl) (by kernel_rfl) (fun _ _ _ h => h) ?_ hHeld ?_; (focus rfl)) | (refine takeW (i := 1) (oi := { dst := some 100, op := Op.binOp BinOp.neq 36 (Operand.tmp 99) (Operand.const (Value.int IntKind.i64 0)) 36, type := 4, pos := "law.go:190", after := #[{ on := 0, ground := Ground.data }], guard := none }) ?_ rfl (by kernel_rfl) (by kernel_rfl) (by kernel_rfl) (fun _ _ _ h => h) ?_ ?_ hHeld ?_; rotate_left; (focus rfl); (focus (intro wq hSq; obtain ⟨s0, s1, s2, s3⟩ := hSq; (first | (go_simp; done) | (go_simp; with_reducible rfl)))))
                try simp only [Act.put, List.setIfInBounds_toArray, List.set_cons_zero, List.set_cons_succ]
                first | (refine takeU (i := 2) (oi := { dst := some 101, op := Op.move (Operand.tmp 100), type := 4, pos := "law.go:190", after := #[{ on := 1, ground := Ground.data }], guard := none }) rfl (by kernel_rfl) (by kernel_rfl) (by kernel_rfl) (fun _ _ _ h => h) ?_ hHeld ?_; (focus rfl)) | (refine takeW (i := 2) (oi := { dst := some 101, op := Op.move (Operand.tmp 100), type := 4, pos := "law.go:190", after := #[{ on := 1, ground := Ground.data }], guard := none }) ?_ rfl (by kernel_rfl) (by kernel_rfl) (by kernel_rfl) (fun _ _ _ h => h) ?_ ?_ hHeld ?_; rotate_left; (focus rfl); (focus (intro wq hSq; obtain ⟨s0, s1, s2, s3⟩ := hSq; (first | (go_simp; done) | (go_simp; with_reducible rfl)))))
                try simp only [Act.put, List.setIfInBounds_toArray, List.set_cons_zero, List.set_cons_succ]
                first | (refine takeU (i := 3) (oi := { dst := some 102, op := Op.load 25 (Operand.tmp 16), type := 25, pos := "law.go:190", after := #[{ on := 2, ground := Ground.guard }], guard := some (2, false) }) rfl (by kernel_rfl) (by kernel_rfl) (by kernel_rfl) (fun _ _ _ h => h) ?_ hHeld ?_; (focus rfl)) | (refine takeW (i := 3) (oi := { dst := some 102, op := Op.load 25 (Operand.tmp 16), type := 25, pos := "law.go:190", after := #[{ on := 2, ground := Ground.guard }], guard := some (2, false) }) ?_ rfl (by kernel_rfl) (by kernel_rfl) (by kernel_rfl) (fun _ _ _ h => h) ?_ ?_ hHeld ?_; rotate_left; (focus rfl); (focus (intro wq hSq; obtain ⟨s0, s1, s2, s3⟩ := hSq; (first | (go_simp; done) | (go_simp; with_reducible rfl)))))
                try simp only [Act.put, List.setIfInBounds_toArray, List.set_cons_zero, List.set_cons_succ]
                first | (refine takeU (i := 4) (oi := { dst := some 103, op := Op.move (Operand.tmp 8), type := 32, pos := "law.go:190", after := #[{ on := 2, ground := Ground.guard }], guard := some (2, false) }) rfl (by kernel_rfl) (by kernel_rfl) (by kernel_rfl) (fun _ _ _ h => h) ?_ hHeld ?_; (focus rfl)) | (refine takeW (i := 4) (oi := { dst := some 103, op := Op.move (Operand.tmp 8), type := 32, pos := "law.go:190", after := #[{ on := 2, ground := Ground.guard }], guard := some (2, false) }) ?_ rfl (by kernel_rfl) (by kernel_rfl) (by kernel_rfl) (fun _ _ _ h => h) ?_ ?_ hHeld ?_; rotate_left; (focus rfl); (focus (intro wq hSq; obtain ⟨s0, s1, s2, s3⟩ := hSq; (first | (go_simp; done) | (go_simp; with_reducible rfl)))))
                try simp only [Act.put, List.setIfInBounds_toArray, List.set_cons_zero, List.set_cons_succ]
                first | (refine takeU (i := 5) (oi := { dst := some 104, op := Op.move (Operand.tmp 14), type := 3, pos := "law.go:190", after := #[{ on := 2, ground := Ground.guard }], guard := some (2, false) }) rfl (by kernel_rfl) (by kernel_rfl) (by kernel_rfl) (fun _ _ _ h => h) ?_ hHeld ?_; (focus rfl)) | (refine takeW (i := 5) (oi := { dst := some 104, op := Op.move (Operand.tmp 14), type := 3, pos := "law.go:190", after := #[{ on := 2, ground := Ground.guard }], guard := some (2, false) }) ?_ rfl (by kernel_rfl) (by kernel_rfl) (by kernel_rfl) (fun _ _ _ h => h) ?_ ?_ hHeld ?_; rotate_left; (focus rfl); (focus (intro wq hSq; obtain ⟨s0, s1, s2, s3⟩ := hSq; (first | (go_simp; done) | (go_simp; with_reducible rfl)))))
                try simp only [Act.put, List.setIfInBounds_toArray, List.set_cons_zero, List.set_cons_succ]
                first | (refine takeU (i := 6) (oi := { dst := some 105, op := Op.indexAddr 32 (Operand.tmp 103) (Operand.tmp 104), type := 0, pos := "law.go:190", after := #[{ on := 4, ground := Ground.data }, { on := 5, ground := Ground.data }, { on := 2, ground := Ground.guard }], guard := some (2, false) }) rfl (by kernel_rfl) (by kernel_rfl) (by kernel_rfl) (fun _ _ _ h => h) ?_ hHeld ?_; (focus rfl)) | (refine takeW (i := 6) (oi := { dst := some 105, op := Op.indexAddr 32 (Operand.tmp 103) (Operand.tmp 104), type := 0, pos := "law.go:190", after := #[{ on := 4, ground := Ground.data }, { on := 5, ground := Ground.data }, { on := 2, ground := Ground.guard }], guard := some (2, false) }) ?_ rfl (by kernel_rfl) (by kernel_rfl) (by kernel_rfl) (fun _ _ _ h => h) ?_ ?_ hHeld ?_; rotate_left; (focus rfl); (focus (intro wq hSq; obtain ⟨s0, s1, s2, s3⟩ := hSq; (first | (go_simp; done) | (go_simp; with_reducible rfl)))))
                try simp only [Act.put, List.setIfInBounds_toArray, List.set_cons_zero, List.set_cons_succ]
                first | (refine takeU (i := 7) (oi := { dst := some 106, op := Op.load 25 (Operand.tmp 105), type := 25, pos := "law.go:190", after := #[{ on := 6, ground := Ground.data }, { on := 2, ground := Ground.guard }], guard := some (2, false) }) rfl (by kernel_rfl) (by kernel_rfl) (by kernel_rfl) (fun _ _ _ h => h) ?_ hHeld ?_; (focus rfl)) | (refine takeW (i := 7) (oi := { dst := some 106, op := Op.load 25 (Operand.tmp 105), type := 25, pos := "law.go:190", after := #[{ on := 6, ground := Ground.data }, { on := 2, ground := Ground.guard }], guard := some (2, false) }) ?_ rfl (by kernel_rfl) (by kernel_rfl) (by kernel_rfl) (fun _ _ _ h => h) ?_ ?_ hHeld ?_; rotate_left; (focus rfl); (focus (intro wq hSq; obtain ⟨s0, s1, s2, s3⟩ := hSq; (first | (go_simp; done) | (go_simp; with_reducible rfl)))))
                try simp only [Act.put, List.setIfInBounds_toArray, List.set_cons_zero, List.set_cons_succ]
                refine wpAnyH_ready (rs := [8]) (by kernel_rfl) (by simp) ?_
                refine AllReadyH.cons (o := { dst := some 107, op := Op.call { callee := Callee.value (Operand.func 13), args := #[Operand.tmp 102, Operand.tmp 106], argTypes := #[25, 25] }, type := 4, pos := "law.go:190", after := #[{ on := 3, ground := Ground.data }, { on := 7, ground := Ground.data }, { on := 2, ground := Ground.chain }, { on := 2, ground := Ground.guard }], guard := some (2, false) }) rfl (fun K hK => ?_) AllReadyH.nil
                first | (refine effU ?_ ?_; (focus rfl)) | (go_simp; (go_at_call 13; refine (refSame_eq (ten_mk (H0.out.ownInts 1 rfl).2.2 (H0.out.ownInts 1 rfl).2.1 (H0.out.ownInts 2 rfl).2.2 (H0.out.ownInts 2 rfl).2.1) (H0.out.oldTen HTE.out)).mono ?_; rintro e13 w13 ⟨rfl, hb⟩; have H8 := Lib.hid (H0.out.below hb); have e0 := H8.out.cell 0 0 rfl rfl; have e1 := H8.out.cell 0 1 rfl rfl; have e2 := H8.out.oldCell (p := ⟨g, i * 2, none⟩) hbl HQ0.out; have e3 := H8.out.oldCell (p := ⟨g, i * 2 + 1, none⟩) hbl HQ1.out; clear hb); go_wp2_with fail)
                refine hK.out _ _ ?_ (fun hHeld2 => ?_)
                · first | assumption | (exact ⟨e0, e1, e2, e3⟩)
                clear hK K hHeld
                have hHeld := hHeld2; clear hHeld2
                try simp only [Act.put, List.setIfInBounds_toArray, List.set_cons_zero, List.set_cons_succ]
                first | (refine takeU (i := 9) (oi := { dst := some 108, op := Op.unOp UnOp.not 4 (Operand.tmp 107), type := 4, pos := "law.go:190", after := #[{ on := 8, ground := Ground.data }, { on := 2, ground := Ground.guard }], guard := some (2, false) }) rfl (by kernel_rfl) (by kernel_rfl) (by kernel_rfl) (fun _ _ _ h => h) ?_ hHeld ?_; (focus rfl)) | (refine takeW (i := 9) (oi := { dst := some 108, op := Op.unOp UnOp.not 4 (Operand.tmp 107), type := 4, pos := "law.go:190", after := #[{ on := 8, ground := Ground.data }, { on := 2, ground := Ground.guard }], guard := some (2, false) }) ?_ rfl (by kernel_rfl) (by kernel_rfl) (by kernel_rfl) (fun _ _ _ h => h) ?_ ?_ hHeld ?_; rotate_left; (focus rfl); (focus (intro wq hSq; obtain ⟨s0, s1, s2, s3⟩ := hSq; (first | (go_simp; done) | (go_simp; with_reducible rfl)))))
                try simp only [Act.put, List.setIfInBounds_toArray, List.set_cons_zero, List.set_cons_succ]
                first | (refine takeU (i := 10) (oi := { dst := some 109, op := Op.pick (Operand.tmp 101) (Operand.const (Value.bool true)) (Operand.tmp 108), type := 4, pos := "law.go:190", after := #[{ on := 2, ground := Ground.data }, { on := 9, ground := Ground.data }], guard := none }) rfl (by kernel_rfl) (by kernel_rfl) (by kernel_rfl) (fun _ _ _ h => h) ?_ hHeld ?_; (focus rfl)) | (refine takeW (i := 10) (oi := { dst := some 109, op := Op.pick (Operand.tmp 101) (Operand.const (Value.bool true)) (Operand.tmp 108), type := 4, pos := "law.go:190", after := #[{ on := 2, ground := Ground.data }, { on := 9, ground := Ground.data }], guard := none }) ?_ rfl (by kernel_rfl) (by kernel_rfl) (by kernel_rfl) (fun _ _ _ h => h) ?_ ?_ hHeld ?_; rotate_left; (focus rfl); (focus (intro wq hSq; obtain ⟨s0, s1, s2, s3⟩ := hSq; (first | (go_simp; done) | (go_simp; with_reducible rfl)))))
                try simp only [Act.put, List.setIfInBounds_toArray, List.set_cons_zero, List.set_cons_succ]
                refine wpAnyH_done (by kernel_rfl) ?_ _
                clear b0 b1 q0 q1 e0 e1 e3 H H0
                have H := H8
                obtain ⟨sa, x, hsA, _, hx, hcx, hfx⟩ := ((ten_ints (H.out.oldTen HTE.out)).1).at_ (k := k) hk
                subst hsA
                have hxb := right_getD (HAR.out t (List.mem_of_getElem? HE.out)) k
                rw [List.getD_eq_getElem?_getD, hx] at hxb
                simp only [Option.getD_some] at hxb
                have htk := tot_take HE.out hx
                rw [HT1.out] at htk
                have HTK := Lib.hid htk
                have hw : IntKind.i64.wrap (T1 + x) = T1 + x := IntWalk.i64_in _ ⟨by omega, by omega⟩
                clear htk hx hfx
                go_wp2
                go_roundw
                case rel => exact ⟨i + 1, by go_num, by omega, by rw [HTK.out], H.out.sub [4, 5, 6] rfl (by decide)⟩
                case measure => simp [intOf]; omega
            · have hin : n = i := by omega
              subst hin
              have hna : ns = na := by have := (H.out.ownS 1 rfl).len; have := HJL.out; omega
              subst hna
              have Ia := (H.out.ownInts 1 rfl).2.2
              obtain ⟨ad, x, hA, _, hx, hcx, hfx⟩ := Ia.at_ (k := k) hk
              subst hA
              have hxt : x = tot k (L.take n) := by rw [joinS, List.getElem?_set, if_pos rfl, if_pos (by have := HHD.out; omega)] at hx; injection hx with hx; rw [← hx, List.take_of_length_le (by have := HLN.out; omega)]
              rw [← hxt]
              have HXT := Lib.hid hxt
              clear hxt hx hfx Ia
              have a0 := H.out.cell 0 0 rfl rfl
              have a1 := H.out.cell 0 1 rfl rfl
              have dx : (x == x) = true := by simp
              have dn : ((ns : Int) == (ns : Int)) = true := by simp
              go_wp2_with fail
              clear a0 a1 hcx
              refine (l5known_any _).mono ?_; rintro e19 w19 ⟨rfl, hb⟩
              replace H := Lib.hid (H.out.below hb)
              clear hb
              go_wp2
              go_ret
              exact ⟨rfl, then_ HBASE.out H.out.base⟩
end Go.Proofs.Ythgpiimagbcmbaa
