/- The walk of the law WindowOnes. -/
import Derived.Test.YtiigbkjkmfjhcaaL8Same
import Derived.Test.YtiigbkjkmfjhcaaWnC
import Derived.Test.YtiigbkjkmfjhcaaSepC
import Derived.Test.YtiigbkjkmfjhcaaKitReg
import Derived.Test.YtiigbkjkmfjhcaaBox
namespace Go.Proofs.Ytiigbkjkmfjhcaa
open Go.RowKit

set_option maxRecDepth 100000 in
set_option maxHeartbeats 12800000 in
theorem wones_walk {w : World} {A0 : Option Addr} {n0 c0 : Nat} {x0 : List Int} (how ax : Int) (h0 : Ints w A0 n0 x0) (hax : Fits ax) :
    Calls Try.prog 5 #[.int .i64 how, .slice A0 n0 c0, .int .i64 ax] w fun e w' => e = .returned (.bool true) ∧ Below w.heap.size w w' := by
  have q0 := Below.refl w.heap.size w
  have hT := tape_new (c := c0) (h0.below q0)
  have hz1 : (w).heap.size = w.heap.size := by simp
  skip
  have s1 := Sep.startTape hz1 hT
  clear hT
  go_enter Try.func5, Try.ntmps5
  go_upto_region 2 with fail
  generalize (w).alloc (.cells #[.slice A0 n0 c0, .int .i64 0] 33) = v at *
  have HQ := Lib.hid q0
  have HZ1 := Lib.hid hz1
  have H := Lib.hid s1
  skip
  clear s1 hz1 q0 h0
  have HAX := Lib.hid hax
  clear hax
  go_wp2_with fail
  refine (next_any 5 (H.out.tape 0 rfl) ⟨by omega, by omega⟩).mono ?_; rintro e1 w1 ⟨⟨r, rfl, hr0, hr1⟩, hR⟩
  replace H := Lib.hid (H.out.read 0 rfl hR)
  clear hR
  have hwr : IntKind.i64.wrap (1 + r) = 1 + r := IntWalk.i64_in _ ⟨by omega, by omega⟩
  have H5 := Lib.hid (H.out.lit 3 #[.int .i64 (1 + r)] [1 + r] 1 w1.heap.size rfl rfl (by simp [litOk]; omega))
  go_wp2_with fail
  refine (tapeShape_any (H5.out.tape 1 rfl)).mono ?_; rintro e2 w2 ⟨⟨v2, n2, s2, rfl, hO, hn2, hsh⟩, hR⟩
  obtain ⟨A2, c2, rfl, hc2, _, _⟩ := hO.form
  have hl2 := hO.len
  have H6 := Lib.hid (H5.out.readOwn 1 rfl hR hO)
  have HSH := Lib.hid hsh
  have HL2 := Lib.hid hl2
  clear hO hR hsh hl2 H5
  go_wp2_with (at_builtin; refine wpList_appends_sep rfl (.tmp 25) (.tmp 27) 23 3 rfl Try.underlying23 Try.infoInt H6.out 1 rfl rfl A2 n2 c2 s2 rfl ((H6.out.ownInts 0 rfl).2.2) ?c1 ?_)
  case c1 => omega
  intro v3 w3 h3
  obtain ⟨A3, c3, hv, hc3, _, _⟩ := (h3.ownS 1 rfl).form
  subst hv
  replace H := Lib.hid h3.tail_
  clear h3 H6
  go_upto_if 31 with fail
  go_cut [8] (fun z wx => ∃ (As : Option Addr) (ns cs : Nat) (s : List Int), z = .slice As ns cs ∧ (1 ≤ ns ∧ ns ≤ 3) ∧ (∀ x ∈ s, 0 ≤ x ∧ x ≤ 7) ∧ Sep w wx [.own 3 (.slice As ns cs) ns s, .tape w.heap.size])
  case first =>
    have HD := Lib.hid (show ∀ x ∈ [1 + r] ++ s2, 0 ≤ x ∧ x ≤ 7 from fun x hx => by
      rcases List.mem_append.1 hx with hx | hx
      · rw [List.mem_singleton] at hx; omega
      · exact HSH.out x hx)
    by_cases h4 : 1 + n2 ≤ 3
    · go_wp2_with fail
      go_meet
      exact ⟨A3, 1 + n2, c3, _, rfl, by omega, HD.out, H.out⟩
    · go_wp2_with fail
      go_meet
      exact ⟨A3, 3, c3, _, rfl, by omega, fun x hx => HD.out x (List.mem_of_mem_take hx), H.out.takeOwn 0 rfl (by omega) (by omega)⟩
  case rest =>
    obtain ⟨As, ns, cs, s, rfl, hns, hsd, hS⟩ := hcut
    replace H := Lib.hid hS
    have Ls := Lib.hid ((H.out.ownInts 0 rfl).2.2).len
    have RS := Lib.hid (small_shape (by rw [Ls.out]; exact hns.2) hsd)
    have DS := Lib.hid hsd
    clear hS hc3 hc2 hn2 hsd
    have C0 := tapeTensor_any (c := cs) (H.out.tape 1 rfl) ((H.out.ownInts 0 rfl).2.2) (by omega)
    go_wp2_with fail
    refine C0.mono ?_; rintro e0 w0 ⟨⟨v, dt, rfl, hOT, hdl⟩, hR⟩
    obtain ⟨vs, vd, nt, mt, rfl, ho1, ho2⟩ := hOT
    obtain ⟨St, kt, rfl, _, _, _⟩ := ho1.form
    obtain ⟨Dt, jt, rfl, _, _, _⟩ := ho2.form
    have HFD := Lib.hid ho2.2.1
    have h5 := H.out.readOwn2 1 rfl hR ho1 ho2 (Ne.symm ty_ne.1)
    have h6 := h5.allocBox w0.heap.size 27 [.slice St nt kt, .slice Dt mt jt] rfl
    have HRT := Lib.hid (show tenRight s dt = true by have h2 := Sh.size_bd s; simp only [tenRight, RS.out, Bool.true_and, decide_eq_true_eq]; omega)
    clear C0 ho1 ho2 h5 hR hdl
    go_upto_region 6 with fail
    generalize w0.alloc (.cells #[.slice St nt kt, .slice Dt mt jt] 27) = vA at *
    generalize w0.heap.size = gt at *
    replace H := Lib.hid h6
    clear h6
    go_cut [10] (fun q wx => ∃ k : Nat, q = .int .i64 k ∧ k < ns ∧ vA = wx)
    case first =>
      obtain ⟨hf1, hf2⟩ := HAX.out
      by_cases g0 : 0 ≤ ax
      · have q1 := Int.emod_nonneg ax (b := (ns : Int)) (by omega)
        have q2 := Int.emod_lt_of_pos ax (b := (ns : Int)) (by omega)
        have q3 := Int.emod_nonneg (ax % (ns : Int) + ns) (b := (ns : Int)) (by omega)
        have q4 := Int.emod_lt_of_pos (ax % (ns : Int) + ns) (b := (ns : Int)) (by omega)
        go_wp2_with fail
        go_meet
        exact ⟨((ax % (ns : Int) + ns) % (ns : Int)).toNat, by rw [Int.toNat_of_nonneg q3], by omega, rfl⟩
      · have q := tmod_bd_ (a := ax) (L := ns) (by omega) (by omega)
        obtain ⟨q1, q2⟩ := q
        have q3 := Int.emod_nonneg (ax.tmod (ns : Int) + ns) (b := (ns : Int)) (by omega)
        have q4 := Int.emod_lt_of_pos (ax.tmod (ns : Int) + ns) (b := (ns : Int)) (by omega)
        go_wp2_with fail
        go_meet
        exact ⟨((ax.tmod (ns : Int) + ns) % (ns : Int)).toNat, by rw [Int.toNat_of_nonneg q3]; first | rfl | (congr 1; simp), by omega, rfl⟩
    case rest =>
      obtain ⟨kx, rfl, hkx, rfl⟩ := hcut
      go_upto_region 7 with fail
      go_cut [11] (fun q wx => ∃ k : Int, q = .int .i64 k ∧ howOk k = true ∧ vA = wx)
      case first =>
        have e3 := and3 how
        have q1 := Int.emod_nonneg how (b := 4) (by omega)
        have q2 := Int.emod_lt_of_pos how (b := 4) (by omega)
        go_wp2_with fail
        go_meet
        exact ⟨1 + how % 4, rfl, howOk_iff.2 ⟨by omega, by omega⟩, rfl⟩
      case rest =>
        obtain ⟨hw, rfl, hk, rfl⟩ := hcut
        have HK := Lib.hid hk
        clear hk
        have HXS := Lib.hid (show kx < s.length by rw [Ls.out]; exact hkx)
        have E1 := Lib.hid (win_ones HK.out HRT.out HXS.out HFD.out)
        have t0 := H.out.cell 0 0 rfl rfl
        have t1 := H.out.cell 0 1 rfl rfl
        have C1 := wdDo_any hw (kx : Int) 1 1 (ten_mk (H.out.ownInts 1 rfl).2.2 (H.out.ownInts 1 rfl).2.1 (H.out.ownInts 2 rfl).2.2 (H.out.ownInts 2 rfl).2.1)
        rw [E1.out] at C1
        go_wp2_with fail
        refine C1.mono ?_; rintro e1 w1 ⟨⟨u, rfl, hu⟩, hb⟩
        obtain ⟨Sx, nx, cx, Dx, mx, dx_, rfl, _, hd, _, _, _, h5⟩ := H.out.addTen hb hu
        have Mx := Lib.hid hd
        have h6 := h5.allocBox w1.heap.size 27 [.slice Sx nx cx, .slice Dx mx dx_] rfl
        clear C1 hu hb h5 hd t0 t1
        go_upto_region 9 with fail
        generalize w1.alloc (.cells #[.slice Sx nx cx, .slice Dx mx dx_] 27) = vx at *
        generalize w1.heap.size = gx at *
        replace H := Lib.hid h6
        clear h6
        have x0 := H.out.cell 0 0 rfl rfl
        have x1 := H.out.cell 0 1 rfl rfl
        have t0 := H.out.cell 3 0 rfl rfl
        have t1 := H.out.cell 3 1 rfl rfl
        have C2 := refSame_eq (ten_mk (H.out.ownInts 1 rfl).2.2 (H.out.ownInts 1 rfl).2.1 (H.out.ownInts 2 rfl).2.2 (H.out.ownInts 2 rfl).2.1) (ten_mk (H.out.ownInts 4 rfl).2.2 (H.out.ownInts 4 rfl).2.1 (H.out.ownInts 5 rfl).2.2 (H.out.ownInts 5 rfl).2.1)
        go_wp2_with fail
        refine C2.mono ?_; rintro e2 w2 ⟨rfl, hb⟩
        replace H := Lib.hid (H.out.below hb)
        clear C2 hb x0 x1 t0 t1
        replace H := Lib.hid (H.out.sub (l' := [.box gt 27 [.slice St nt kt, .slice Dt mt jt], .own 3 (.slice St nt kt) nt s, .own 2 (.slice Dt mt jt) mt dt, .own 3 (.slice As ns cs) ns s]) [3, 4, 5, 6] rfl (by decide))
        obtain ⟨sa, n, hsA, _, hy, hcy, _⟩ := ((H.out.ownInts 3 rfl).2.2).at_ (k := kx) hkx
        subst hsA
        have HY := Lib.hid hy
        have hnd := DS.out n (List.mem_of_getElem? hy)
        clear hy
        by_cases hn0 : n = 0
        · have d0 : (n == 0) = true := by simp [hn0]
          clear hn0
          go_wp2_with fail
          refine (l8known_any _).mono ?_; rintro e9 w9 ⟨rfl, hb⟩
          replace H := Lib.hid (H.out.below hb)
          clear hb
          go_wp2
          go_ret
          exact ⟨rfl, H.out.base⟩
        · have d0 : (n == 0) = false := by simpa using hn0
          have HWA := Lib.hid (win_all (d := dt) HK.out HRT.out HY.out (by omega))
          go_upto_region 13 with fail
          obtain ⟨WD, hWD⟩ : ∃ z, winD hw s dt kx n 1 = z := ⟨_, rfl⟩
          have hwa := HWA.out
          rw [hWD] at hwa
          have E2 := Lib.hid hwa.1
          have E3 := Lib.hid hwa.2
          clear hwa HWA hWD
          go_cut [14, 15] (fun u1 u2 wx => ∃ (gb : Nat) (Sb Db : Option Addr) (nb cb mb db : Nat), u1 = .pointer (some ⟨gb, 0, none⟩) ∧ u2 = .int .i64 0 ∧ Sep w wx (.box gb 27 [.slice Sb nb cb, .slice Db mb db] :: .own 3 (.slice Sb nb cb) nb (s.set kx 1) :: .own 2 (.slice Db mb db) mb WD :: [.box gt 27 [.slice St nt kt, .slice Dt mt jt], .own 3 (.slice St nt kt) nt s, .own 2 (.slice Dt mt jt) mt dt, .own 3 (.slice (some sa) ns cs) ns s]))
          case first =>
            have H0 := Lib.hid H.out.drew
            have ca0 := H0.out.cell 0 0 rfl rfl
            have ca1 := H0.out.cell 0 1 rfl rfl
            have ca2 := ((H0.out.ownInts 3 rfl).2.2).get HY.out
            refine wp_region_held_drew (S := (fun w' => w'.cell? ⟨gt, 0, none⟩ = some (.slice St nt kt) ∧ w'.cell? ⟨gt, 1, none⟩ = some (.slice Dt mt jt) ∧ w'.cell? (sa.add kx) = some (.int .i64 n))) (by kernel_rfl) ?_ (fun hHeld => ?_)
            · exact ⟨ca0, ca1, ca2⟩
            first | (refine takeU (i := 0) (oi := { dst := some 72, op := Op.move (Operand.tmp 11), type := 3, pos := "law.go:78", after := #[], guard := none }) rfl (by kernel_rfl) (by kernel_rfl) (by kernel_rfl) (fun _ _ _ h => h) ?_ hHeld ?_; (focus rfl)) | (refine takeW (i := 0) (oi := { dst := some 72, op := Op.move (Operand.tmp 11), type := 3, pos := "law.go:78", after := #[], guard := none }) ?_ rfl (by kernel_rfl) (by kernel_rfl) (by kernel_rfl) (fun _ _ _ h => h) ?_ ?_ hHeld ?_; rotate_left; (focus rfl); (focus (intro wq hSq; obtain ⟨s0, s1, s2⟩ := hSq; (first | (go_simp; done) | (go_simp; with_reducible rfl)))))
            try simp only [Act.put, List.setIfInBounds_toArray, List.set_cons_zero, List.set_cons_succ]
            first | (refine takeU (i := 1) (oi := { dst := some 73, op := Op.load 27 (Operand.tmp 9), type := 27, pos := "law.go:78", after := #[], guard := none }) rfl (by kernel_rfl) (by kernel_rfl) (by kernel_rfl) (fun _ _ _ h => h) ?_ hHeld ?_; (focus rfl)) | (refine takeW (i := 1) (oi := { dst := some 73, op := Op.load 27 (Operand.tmp 9), type := 27, pos := "law.go:78", after := #[], guard := none }) ?_ rfl (by kernel_rfl) (by kernel_rfl) (by kernel_rfl) (fun _ _ _ h => h) ?_ ?_ hHeld ?_; rotate_left; (focus rfl); (focus (intro wq hSq; obtain ⟨s0, s1, s2⟩ := hSq; (first | (go_simp; done) | (go_simp; with_reducible rfl)))))
            try simp only [Act.put, List.setIfInBounds_toArray, List.set_cons_zero, List.set_cons_succ]
            first | (refine takeU (i := 2) (oi := { dst := some 74, op := Op.move (Operand.tmp 10), type := 3, pos := "law.go:78", after := #[], guard := none }) rfl (by kernel_rfl) (by kernel_rfl) (by kernel_rfl) (fun _ _ _ h => h) ?_ hHeld ?_; (focus rfl)) | (refine takeW (i := 2) (oi := { dst := some 74, op := Op.move (Operand.tmp 10), type := 3, pos := "law.go:78", after := #[], guard := none }) ?_ rfl (by kernel_rfl) (by kernel_rfl) (by kernel_rfl) (fun _ _ _ h => h) ?_ ?_ hHeld ?_; rotate_left; (focus rfl); (focus (intro wq hSq; obtain ⟨s0, s1, s2⟩ := hSq; (first | (go_simp; done) | (go_simp; with_reducible rfl)))))
            try simp only [Act.put, List.setIfInBounds_toArray, List.set_cons_zero, List.set_cons_succ]
            first | (refine takeU (i := 3) (oi := { dst := some 75, op := Op.move (Operand.tmp 8), type := 23, pos := "law.go:78", after := #[], guard := none }) rfl (by kernel_rfl) (by kernel_rfl) (by kernel_rfl) (fun _ _ _ h => h) ?_ hHeld ?_; (focus rfl)) | (refine takeW (i := 3) (oi := { dst := some 75, op := Op.move (Operand.tmp 8), type := 23, pos := "law.go:78", after := #[], guard := none }) ?_ rfl (by kernel_rfl) (by kernel_rfl) (by kernel_rfl) (fun _ _ _ h => h) ?_ ?_ hHeld ?_; rotate_left; (focus rfl); (focus (intro wq hSq; obtain ⟨s0, s1, s2⟩ := hSq; (first | (go_simp; done) | (go_simp; with_reducible rfl)))))
            try simp only [Act.put, List.setIfInBounds_toArray, List.set_cons_zero, List.set_cons_succ]
            first | (refine takeU (i := 4) (oi := { dst := some 76, op := Op.move (Operand.tmp 10), type := 3, pos := "law.go:78", after := #[], guard := none }) rfl (by kernel_rfl) (by kernel_rfl) (by kernel_rfl) (fun _ _ _ h => h) ?_ hHeld ?_; (focus rfl)) | (refine takeW (i := 4) (oi := { dst := some 76, op := Op.move (Operand.tmp 10), type := 3, pos := "law.go:78", after := #[], guard := none }) ?_ rfl (by kernel_rfl) (by kernel_rfl) (by kernel_rfl) (fun _ _ _ h => h) ?_ ?_ hHeld ?_; rotate_left; (focus rfl); (focus (intro wq hSq; obtain ⟨s0, s1, s2⟩ := hSq; (first | (go_simp; done) | (go_simp; with_reducible rfl)))))
            try simp only [Act.put, List.setIfInBounds_toArray, List.set_cons_zero, List.set_cons_succ]
            first | (refine takeU (i := 5) (oi := { dst := some 77, op := Op.indexAddr 23 (Operand.tmp 75) (Operand.tmp 76), type := 0, pos := "law.go:78", after := #[{ on := 3, ground := Ground.data }, { on := 4, ground := Ground.data }], guard := none }) rfl (by kernel_rfl) (by kernel_rfl) (by kernel_rfl) (fun _ _ _ h => h) ?_ hHeld ?_; (focus rfl)) | (refine takeW (i := 5) (oi := { dst := some 77, op := Op.indexAddr 23 (Operand.tmp 75) (Operand.tmp 76), type := 0, pos := "law.go:78", after := #[{ on := 3, ground := Ground.data }, { on := 4, ground := Ground.data }], guard := none }) ?_ rfl (by kernel_rfl) (by kernel_rfl) (by kernel_rfl) (fun _ _ _ h => h) ?_ ?_ hHeld ?_; rotate_left; (focus rfl); (focus (intro wq hSq; obtain ⟨s0, s1, s2⟩ := hSq; (first | (go_simp; done) | (go_simp; with_reducible rfl)))))
            try simp only [Act.put, List.setIfInBounds_toArray, List.set_cons_zero, List.set_cons_succ]
            first | (refine takeU (i := 6) (oi := { dst := some 78, op := Op.load 3 (Operand.tmp 77), type := 3, pos := "law.go:78", after := #[{ on := 5, ground := Ground.data }], guard := none }) rfl (by kernel_rfl) (by kernel_rfl) (by kernel_rfl) (fun _ _ _ h => h) ?_ hHeld ?_; (focus rfl)) | (refine takeW (i := 6) (oi := { dst := some 78, op := Op.load 3 (Operand.tmp 77), type := 3, pos := "law.go:78", after := #[{ on := 5, ground := Ground.data }], guard := none }) ?_ rfl (by kernel_rfl) (by kernel_rfl) (by kernel_rfl) (fun _ _ _ h => h) ?_ ?_ hHeld ?_; rotate_left; (focus rfl); (focus (intro wq hSq; obtain ⟨s0, s1, s2⟩ := hSq; (first | (go_simp; done) | (go_simp; with_reducible rfl)))))
            try simp only [Act.put, List.setIfInBounds_toArray, List.set_cons_zero, List.set_cons_succ]
            refine wpAnyH_ready (rs := [7, 11]) (by kernel_rfl) (by simp) ?_
            refine (AllReadyH.cons (o := { dst := some 79, op := Op.call { callee := Callee.value (Operand.func 15), args := #[Operand.tmp 72, Operand.tmp 73, Operand.tmp 74, Operand.tmp 78, Operand.const (Value.int IntKind.i64 1)], argTypes := #[3, 27, 3, 3, 3] }, type := 39, pos := "law.go:78", after := #[{ on := 0, ground := Ground.data }, { on := 1, ground := Ground.data }, { on := 2, ground := Ground.data }, { on := 6, ground := Ground.data }], guard := none }) rfl (fun K hK => ?_) (AllReadyH.cons (o := { dst := some 14, op := Op.alloc 27, type := 0, pos := "law.go:78", after := #[], guard := none }) rfl (fun K hK => ?_) AllReadyH.nil))
            · first | (refine effU ?_ ?_; (focus rfl)) | (go_simp; (go_at_call 15; have CC := wdDo_any hw (kx : Int) n 1 (ten_mk (H0.out.ownInts 1 rfl).2.2 (H0.out.ownInts 1 rfl).2.1 (H0.out.ownInts 2 rfl).2.2 (H0.out.ownInts 2 rfl).2.1); rw [E2.out] at CC; (with_reducible refine CC.mono ?_); rintro e8 x1 ⟨⟨u, rfl, hu⟩, hb⟩; obtain ⟨Sb, nb, cb, Db, mb, db, rfl, _, _, _, _, _, h8⟩ := H0.out.addTen hb hu; have H8 := Lib.hid h8; have cc0 := H8.out.cell 2 0 rfl rfl; have cc1 := H8.out.cell 2 1 rfl rfl; have cc2 := ((H8.out.ownInts 5 rfl).2.2).get HY.out; clear hu hb h8); go_wp2_with fail)
              refine hK.out _ _ ?_ (fun hHeld2 => ?_)
              · first | with_reducible assumption | (exact ⟨cc0, cc1, cc2⟩) | assumption
              clear hK K hHeld
              have hHeld := hHeld2; clear hHeld2
              try simp only [Act.put, List.setIfInBounds_toArray, List.set_cons_zero, List.set_cons_succ]
              first | (refine takeU (i := 8) (oi := { dst := some 71, op := Op.move (Operand.tmp 79), type := 39, pos := "law.go:78", after := #[{ on := 7, ground := Ground.data }], guard := none }) rfl (by kernel_rfl) (by kernel_rfl) (by kernel_rfl) (fun _ _ _ h => h) ?_ hHeld ?_; (focus rfl)) | (refine takeW (i := 8) (oi := { dst := some 71, op := Op.move (Operand.tmp 79), type := 39, pos := "law.go:78", after := #[{ on := 7, ground := Ground.data }], guard := none }) ?_ rfl (by kernel_rfl) (by kernel_rfl) (by kernel_rfl) (fun _ _ _ h => h) ?_ ?_ hHeld ?_; rotate_left; (focus rfl); (focus (intro wq hSq; obtain ⟨s0, s1, s2⟩ := hSq; (first | (go_simp; done) | (go_simp; with_reducible rfl)))))
              try simp only [Act.put, List.setIfInBounds_toArray, List.set_cons_zero, List.set_cons_succ]
              first | (refine takeU (i := 9) (oi := { dst := some 80, op := Op.extract (Operand.tmp 71) 0, type := 27, pos := "law.go:78", after := #[{ on := 8, ground := Ground.data }], guard := none }) rfl (by kernel_rfl) (by kernel_rfl) (by kernel_rfl) (fun _ _ _ h => h) ?_ hHeld ?_; (focus rfl)) | (refine takeW (i := 9) (oi := { dst := some 80, op := Op.extract (Operand.tmp 71) 0, type := 27, pos := "law.go:78", after := #[{ on := 8, ground := Ground.data }], guard := none }) ?_ rfl (by kernel_rfl) (by kernel_rfl) (by kernel_rfl) (fun _ _ _ h => h) ?_ ?_ hHeld ?_; rotate_left; (focus rfl); (focus (intro wq hSq; obtain ⟨s0, s1, s2⟩ := hSq; (first | (go_simp; done) | (go_simp; with_reducible rfl)))))
              try simp only [Act.put, List.setIfInBounds_toArray, List.set_cons_zero, List.set_cons_succ]
              first | (refine takeU (i := 10) (oi := { dst := some 81, op := Op.extract (Operand.tmp 71) 1, type := 38, pos := "law.go:78", after := #[{ on := 8, ground := Ground.data }, { on := 12, ground := Ground.gcOnly Departure.lateStores }], guard := none }) rfl (by kernel_rfl) (by kernel_rfl) (by kernel_rfl) (fun _ _ _ h => h) ?_ hHeld ?_; (focus rfl)) | (refine takeW (i := 10) (oi := { dst := some 81, op := Op.extract (Operand.tmp 71) 1, type := 38, pos := "law.go:78", after := #[{ on := 8, ground := Ground.data }, { on := 12, ground := Ground.gcOnly Departure.lateStores }], guard := none }) ?_ rfl (by kernel_rfl) (by kernel_rfl) (by kernel_rfl) (fun _ _ _ h => h) ?_ ?_ hHeld ?_; rotate_left; (focus rfl); (focus (intro wq hSq; obtain ⟨s0, s1, s2⟩ := hSq; (first | (go_simp; done) | (go_simp; with_reducible rfl)))))
              try simp only [Act.put, List.setIfInBounds_toArray, List.set_cons_zero, List.set_cons_succ]
              refine wpAnyH_ready (rs := [11]) (by kernel_rfl) (by simp) ?_
              refine (AllReadyH.cons (o := { dst := some 14, op := Op.alloc 27, type := 0, pos := "law.go:78", after := #[], guard := none }) rfl (fun K hK => ?_) AllReadyH.nil)
              (have H2 := Lib.hid (H8.out.allocBox x1.heap.size 27 [.slice none 0 0, .slice none 0 0] rfl); have cd0 := H2.out.cell 3 0 rfl rfl; have cd1 := H2.out.cell 3 1 rfl rfl; have cd2 := ((H2.out.ownInts 6 rfl).2.2).get HY.out)
              go_simp
              try go_wp2_with fail
              refine hK.out _ _ ?_ (fun hHeld2 => ?_)
              · first | with_reducible assumption | (exact ⟨cd0, cd1, cd2⟩) | assumption
              clear hK K hHeld
              have hHeld := hHeld2; clear hHeld2
              try simp only [Act.put, List.setIfInBounds_toArray, List.set_cons_zero, List.set_cons_succ]
              refine wpAnyH_ready (rs := [12]) (by kernel_rfl) (by simp) ?_
              refine (AllReadyH.cons (o := { dst := none, op := Op.store 27 (Operand.tmp 14) (Operand.tmp 80), type := 0, pos := "law.go:78", after := #[{ on := 11, ground := Ground.data }, { on := 9, ground := Ground.data }, { on := 7, ground := Ground.chain }, { on := 0, ground := Ground.phase }, { on := 1, ground := Ground.phase }, { on := 2, ground := Ground.phase }, { on := 3, ground := Ground.phase }, { on := 4, ground := Ground.phase }, { on := 5, ground := Ground.phase }, { on := 6, ground := Ground.phase }, { on := 7, ground := Ground.phase }, { on := 8, ground := Ground.phase }, { on := 9, ground := Ground.phase }, { on := 10, ground := Ground.textOnly Departure.lateStores }, { on := 11, ground := Ground.phase }], guard := none }) rfl (fun K hK => ?_) AllReadyH.nil)
              (have H9 := Lib.hid (H8.out.allocBox x1.heap.size 27 [.slice Sb nb cb, .slice Db mb db] rfl); have ce0 := H9.out.cell 3 0 rfl rfl; have ce1 := H9.out.cell 3 1 rfl rfl; have ce2 := ((H9.out.ownInts 6 rfl).2.2).get HY.out)
              go_simp
              try go_wp2_with fail
              refine hK.out _ _ ?_ (fun hHeld2 => ?_)
              · first | with_reducible assumption | (exact ⟨ce0, ce1, ce2⟩) | assumption
              clear hK K hHeld
              have hHeld := hHeld2; clear hHeld2
              try simp only [Act.put, List.setIfInBounds_toArray, List.set_cons_zero, List.set_cons_succ]
              first | (refine takeU (i := 13) (oi := { dst := some 15, op := Op.assign (Operand.tmp 81), type := 38, pos := "law.go:78", after := #[{ on := 10, ground := Ground.data }, { on := 12, ground := Ground.chain }, { on := 0, ground := Ground.phase }, { on := 1, ground := Ground.phase }, { on := 2, ground := Ground.phase }, { on := 3, ground := Ground.phase }, { on := 4, ground := Ground.phase }, { on := 5, ground := Ground.phase }, { on := 6, ground := Ground.phase }, { on := 7, ground := Ground.phase }, { on := 8, ground := Ground.phase }, { on := 9, ground := Ground.phase }, { on := 10, ground := Ground.phase }, { on := 11, ground := Ground.phase }, { on := 12, ground := Ground.phase }], guard := none }) rfl (by kernel_rfl) (by kernel_rfl) (by kernel_rfl) (fun _ _ _ h => h) ?_ hHeld ?_; (focus rfl)) | (refine takeW (i := 13) (oi := { dst := some 15, op := Op.assign (Operand.tmp 81), type := 38, pos := "law.go:78", after := #[{ on := 10, ground := Ground.data }, { on := 12, ground := Ground.chain }, { on := 0, ground := Ground.phase }, { on := 1, ground := Ground.phase }, { on := 2, ground := Ground.phase }, { on := 3, ground := Ground.phase }, { on := 4, ground := Ground.phase }, { on := 5, ground := Ground.phase }, { on := 6, ground := Ground.phase }, { on := 7, ground := Ground.phase }, { on := 8, ground := Ground.phase }, { on := 9, ground := Ground.phase }, { on := 10, ground := Ground.phase }, { on := 11, ground := Ground.phase }, { on := 12, ground := Ground.phase }], guard := none }) ?_ rfl (by kernel_rfl) (by kernel_rfl) (by kernel_rfl) (fun _ _ _ h => h) ?_ ?_ hHeld ?_; rotate_left; (focus rfl); (focus (intro wq hSq; obtain ⟨s0, s1, s2⟩ := hSq; (first | (go_simp; done) | (go_simp; with_reducible rfl)))))
              try simp only [Act.put, List.setIfInBounds_toArray, List.set_cons_zero, List.set_cons_succ]
              refine wpAnyH_done (by kernel_rfl) ?_ _
              go_wp2_with fail
              go_meet
              first
                | exact ⟨_, Sb, Db, nb, cb, mb, db, rfl, rfl, H9.out⟩
                | exact ⟨_, Sb, Db, nb, cb, mb, db, rfl, rfl, H9.out.sub [2, 0, 1, 3, 4, 5, 6] rfl (by decide)⟩
            · (have H1 := Lib.hid ((H.out.allocBox w2.heap.size 27 [.slice none 0 0, .slice none 0 0] rfl).drew); have cb0 := H1.out.cell 1 0 rfl rfl; have cb1 := H1.out.cell 1 1 rfl rfl; have cb2 := ((H1.out.ownInts 4 rfl).2.2).get HY.out)
              go_simp
              try go_wp2_with fail
              refine hK.out _ _ ?_ (fun hHeld2 => ?_)
              · first | with_reducible assumption | (exact ⟨cb0, cb1, cb2⟩) | assumption
              clear hK K hHeld
              have hHeld := hHeld2; clear hHeld2
              try simp only [Act.put, List.setIfInBounds_toArray, List.set_cons_zero, List.set_cons_succ]
              refine wpAnyH_ready (rs := [7]) (by kernel_rfl) (by simp) ?_
              refine (AllReadyH.cons (o := { dst := some 79, op := Op.call { callee := Callee.value (Operand.func 15), args := #[Operand.tmp 72, Operand.tmp 73, Operand.tmp 74, Operand.tmp 78, Operand.const (Value.int IntKind.i64 1)], argTypes := #[3, 27, 3, 3, 3] }, type := 39, pos := "law.go:78", after := #[{ on := 0, ground := Ground.data }, { on := 1, ground := Ground.data }, { on := 2, ground := Ground.data }, { on := 6, ground := Ground.data }], guard := none }) rfl (fun K hK => ?_) AllReadyH.nil)
              first | (refine effU ?_ ?_; (focus rfl)) | (go_simp; (go_at_call 15; have CC := wdDo_any hw (kx : Int) n 1 (ten_mk (H1.out.ownInts 2 rfl).2.2 (H1.out.ownInts 2 rfl).2.1 (H1.out.ownInts 3 rfl).2.2 (H1.out.ownInts 3 rfl).2.1); rw [E2.out] at CC; (with_reducible refine CC.mono ?_); rintro e8 x1 ⟨⟨u, rfl, hu⟩, hb⟩; obtain ⟨Sb, nb, cb, Db, mb, db, rfl, _, _, _, _, _, h8⟩ := H1.out.addTen hb hu; have H8 := Lib.hid h8; have cc0 := H8.out.cell 3 0 rfl rfl; have cc1 := H8.out.cell 3 1 rfl rfl; have cc2 := ((H8.out.ownInts 6 rfl).2.2).get HY.out; clear hu hb h8); go_wp2_with fail)
              refine hK.out _ _ ?_ (fun hHeld2 => ?_)
              · first | with_reducible assumption | (exact ⟨cc0, cc1, cc2⟩) | assumption
              clear hK K hHeld
              have hHeld := hHeld2; clear hHeld2
              try simp only [Act.put, List.setIfInBounds_toArray, List.set_cons_zero, List.set_cons_succ]
              first | (refine takeU (i := 8) (oi := { dst := some 71, op := Op.move (Operand.tmp 79), type := 39, pos := "law.go:78", after := #[{ on := 7, ground := Ground.data }], guard := none }) rfl (by kernel_rfl) (by kernel_rfl) (by kernel_rfl) (fun _ _ _ h => h) ?_ hHeld ?_; (focus rfl)) | (refine takeW (i := 8) (oi := { dst := some 71, op := Op.move (Operand.tmp 79), type := 39, pos := "law.go:78", after := #[{ on := 7, ground := Ground.data }], guard := none }) ?_ rfl (by kernel_rfl) (by kernel_rfl) (by kernel_rfl) (fun _ _ _ h => h) ?_ ?_ hHeld ?_; rotate_left; (focus rfl); (focus (intro wq hSq; obtain ⟨s0, s1, s2⟩ := hSq; (first | (go_simp; done) | (go_simp; with_reducible rfl)))))
              try simp only [Act.put, List.setIfInBounds_toArray, List.set_cons_zero, List.set_cons_succ]
              first | (refine takeU (i := 9) (oi := { dst := some 80, op := Op.extract (Operand.tmp 71) 0, type := 27, pos := "law.go:78", after := #[{ on := 8, ground := Ground.data }], guard := none }) rfl (by kernel_rfl) (by kernel_rfl) (by kernel_rfl) (fun _ _ _ h => h) ?_ hHeld ?_; (focus rfl)) | (refine takeW (i := 9) (oi := { dst := some 80, op := Op.extract (Operand.tmp 71) 0, type := 27, pos := "law.go:78", after := #[{ on := 8, ground := Ground.data }], guard := none }) ?_ rfl (by kernel_rfl) (by kernel_rfl) (by kernel_rfl) (fun _ _ _ h => h) ?_ ?_ hHeld ?_; rotate_left; (focus rfl); (focus (intro wq hSq; obtain ⟨s0, s1, s2⟩ := hSq; (first | (go_simp; done) | (go_simp; with_reducible rfl)))))
              try simp only [Act.put, List.setIfInBounds_toArray, List.set_cons_zero, List.set_cons_succ]
              first | (refine takeU (i := 10) (oi := { dst := some 81, op := Op.extract (Operand.tmp 71) 1, type := 38, pos := "law.go:78", after := #[{ on := 8, ground := Ground.data }, { on := 12, ground := Ground.gcOnly Departure.lateStores }], guard := none }) rfl (by kernel_rfl) (by kernel_rfl) (by kernel_rfl) (fun _ _ _ h => h) ?_ hHeld ?_; (focus rfl)) | (refine takeW (i := 10) (oi := { dst := some 81, op := Op.extract (Operand.tmp 71) 1, type := 38, pos := "law.go:78", after := #[{ on := 8, ground := Ground.data }, { on := 12, ground := Ground.gcOnly Departure.lateStores }], guard := none }) ?_ rfl (by kernel_rfl) (by kernel_rfl) (by kernel_rfl) (fun _ _ _ h => h) ?_ ?_ hHeld ?_; rotate_left; (focus rfl); (focus (intro wq hSq; obtain ⟨s0, s1, s2⟩ := hSq; (first | (go_simp; done) | (go_simp; with_reducible rfl)))))
              try simp only [Act.put, List.setIfInBounds_toArray, List.set_cons_zero, List.set_cons_succ]
              refine wpAnyH_ready (rs := [12]) (by kernel_rfl) (by simp) ?_
              refine (AllReadyH.cons (o := { dst := none, op := Op.store 27 (Operand.tmp 14) (Operand.tmp 80), type := 0, pos := "law.go:78", after := #[{ on := 11, ground := Ground.data }, { on := 9, ground := Ground.data }, { on := 7, ground := Ground.chain }, { on := 0, ground := Ground.phase }, { on := 1, ground := Ground.phase }, { on := 2, ground := Ground.phase }, { on := 3, ground := Ground.phase }, { on := 4, ground := Ground.phase }, { on := 5, ground := Ground.phase }, { on := 6, ground := Ground.phase }, { on := 7, ground := Ground.phase }, { on := 8, ground := Ground.phase }, { on := 9, ground := Ground.phase }, { on := 10, ground := Ground.textOnly Departure.lateStores }, { on := 11, ground := Ground.phase }], guard := none }) rfl (fun K hK => ?_) AllReadyH.nil)
              (have f0 := H8.out.cell 2 0 rfl rfl; have f1 := H8.out.cell 2 1 rfl rfl; have f2 := H8.out.frozenBox 2 0 rfl; have f3 := H8.out.frozenBox 2 1 rfl; have H9 := Lib.hid ((H8.out.setBox 2 0 (.slice Sb nb cb) rfl).setBox 2 1 (.slice Db mb db) rfl); have ce0 := H9.out.cell 3 0 rfl rfl; have ce1 := H9.out.cell 3 1 rfl rfl; have ce2 := ((H9.out.ownInts 6 rfl).2.2).get HY.out)
              go_simp
              try go_wp2_with fail
              refine hK.out _ _ ?_ (fun hHeld2 => ?_)
              · first | with_reducible assumption | (exact ⟨ce0, ce1, ce2⟩) | assumption
              clear hK K hHeld
              have hHeld := hHeld2; clear hHeld2
              try simp only [Act.put, List.setIfInBounds_toArray, List.set_cons_zero, List.set_cons_succ]
              first | (refine takeU (i := 13) (oi := { dst := some 15, op := Op.assign (Operand.tmp 81), type := 38, pos := "law.go:78", after := #[{ on := 10, ground := Ground.data }, { on := 12, ground := Ground.chain }, { on := 0, ground := Ground.phase }, { on := 1, ground := Ground.phase }, { on := 2, ground := Ground.phase }, { on := 3, ground := Ground.phase }, { on := 4, ground := Ground.phase }, { on := 5, ground := Ground.phase }, { on := 6, ground := Ground.phase }, { on := 7, ground := Ground.phase }, { on := 8, ground := Ground.phase }, { on := 9, ground := Ground.phase }, { on := 10, ground := Ground.phase }, { on := 11, ground := Ground.phase }, { on := 12, ground := Ground.phase }], guard := none }) rfl (by kernel_rfl) (by kernel_rfl) (by kernel_rfl) (fun _ _ _ h => h) ?_ hHeld ?_; (focus rfl)) | (refine takeW (i := 13) (oi := { dst := some 15, op := Op.assign (Operand.tmp 81), type := 38, pos := "law.go:78", after := #[{ on := 10, ground := Ground.data }, { on := 12, ground := Ground.chain }, { on := 0, ground := Ground.phase }, { on := 1, ground := Ground.phase }, { on := 2, ground := Ground.phase }, { on := 3, ground := Ground.phase }, { on := 4, ground := Ground.phase }, { on := 5, ground := Ground.phase }, { on := 6, ground := Ground.phase }, { on := 7, ground := Ground.phase }, { on := 8, ground := Ground.phase }, { on := 9, ground := Ground.phase }, { on := 10, ground := Ground.phase }, { on := 11, ground := Ground.phase }, { on := 12, ground := Ground.phase }], guard := none }) ?_ rfl (by kernel_rfl) (by kernel_rfl) (by kernel_rfl) (fun _ _ _ h => h) ?_ ?_ hHeld ?_; rotate_left; (focus rfl); (focus (intro wq hSq; obtain ⟨s0, s1, s2⟩ := hSq; (first | (go_simp; done) | (go_simp; with_reducible rfl)))))
              try simp only [Act.put, List.setIfInBounds_toArray, List.set_cons_zero, List.set_cons_succ]
              refine wpAnyH_done (by kernel_rfl) ?_ _
              go_wp2_with fail
              go_meet
              first
                | exact ⟨_, Sb, Db, nb, cb, mb, db, rfl, rfl, H9.out⟩
                | exact ⟨_, Sb, Db, nb, cb, mb, db, rfl, rfl, H9.out.sub [2, 0, 1, 3, 4, 5, 6] rfl (by decide)⟩
          case rest =>
            obtain ⟨gb, Sb, Db, nb, cb, mb, db, rfl, rfl, hS⟩ := hcut
            clear H
            have H := Lib.hid hS
            clear hS
            have t0 := H.out.cell 3 0 rfl rfl
            have t1 := H.out.cell 3 1 rfl rfl
            replace H := Lib.hid (H.out.lit 3 #[.int .i64 (kx : Int)] [(kx : Int)] 1 wc.heap.size rfl rfl (by simp [litOk]; omega))
            have t0 := H.out.cell 4 0 rfl rfl
            have t1 := H.out.cell 4 1 rfl rfl
            have C3 := ref6Fold_any (ca := 1) hw (ten_mk (H.out.ownInts 5 rfl).2.2 (H.out.ownInts 5 rfl).2.1 (H.out.ownInts 6 rfl).2.2 (H.out.ownInts 6 rfl).2.1) ((H.out.ownInts 0 rfl).2.2)
            rw [E3.out] at C3
            go_wp2_with fail
            refine C3.mono ?_; rintro e3 w3 ⟨⟨u, rfl, hu⟩, hb⟩
            obtain ⟨Sc, nc, cc, Dc, mc, dc_, rfl, _, hd, _, _, _, h5⟩ := H.out.addTen hb hu
            have Mc := Lib.hid hd
            have h6 := h5.allocBox w3.heap.size 27 [.slice Sc nc cc, .slice Dc mc dc_] rfl
            clear C3 hu hb h5 hd t0 t1
            go_upto_region 15 with fail
            generalize w3.alloc (.cells #[.slice Sc nc cc, .slice Dc mc dc_] 27) = vc at *
            generalize w3.heap.size = gc at *
            replace H := Lib.hid h6
            clear h6
            have Ib := (H.out.ownInts 6 rfl).2.2
            have Ic := (H.out.ownInts 2 rfl).2.2
            obtain rfl : mb = mc := Ib.len.symm.trans Ic.len
            have dm : ((mb : Int) != (mb : Int)) = false := by simp
            have hmb := Ib.le
            have b0 := H.out.cell 4 0 rfl rfl
            have b1 := H.out.cell 4 1 rfl rfl
            have c0 := H.out.cell 0 0 rfl rfl
            have c1 := H.out.cell 0 1 rfl rfl
            go_wp2_with fail
            go_loopw [104] (fun kv wr => ∃ i : Nat, kv = .int .i64 i ∧ i ≤ mb ∧ ∃ q, wr = vc.drewN q) (fun kv _ => mb - (intOf kv).toNat)
            case atStart => exact ⟨0, rfl, by omega, 0, rfl⟩
            case round =>
              obtain ⟨i, rfl, hi, q, rfl⟩ := hrel
              by_cases hlm : i < mb
              · obtain ⟨aw, x, hA, _, hx, hcx, _⟩ := Ib.at_ (k := i) hlm
                obtain ⟨at_, y, hB, _, hy, hcy2, _⟩ := Ic.at_ (k := i) hlm
                subst hA
                subst hB
                rw [hx] at hy
                injection hy with hy
                subst hy
                clear hx
                have dx : (x != x) = false := by simp
                go_wp2_with fail
                go_quiet (fail)
                go_wp2
                go_roundw
                case rel => exact ⟨i + 1, by go_num, by omega, _, rfl⟩
                case measure => simp [intOf]; omega
              · have hin : mb = i := by omega
                subst hin
                clear b0 b1 c0 c1 Ib Ic
                replace H := Lib.hid (H.out.drewN q)
                generalize vc.drewN q = vL at *
                go_wp2_with fail
                refine (l8known_any _).mono ?_; rintro e9 w9 ⟨rfl, hb⟩
                replace H := Lib.hid (H.out.below hb)
                clear hb
                go_wp2
                go_ret
                exact ⟨rfl, H.out.base⟩
end Go.Proofs.Ytiigbkjkmfjhcaa
