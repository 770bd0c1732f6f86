/- The walk of the law AxesTells. -/
import Derived.Test.YthgpiimagbcmbaaL5Same
import Derived.Test.YthgpiimagbcmbaaL5Known
import Derived.Test.YthgpiimagbcmbaaRef4B
import Derived.Test.YthgpiimagbcmbaaBox
import Derived.Test.YthgpiimagbcmbaaKitReg
namespace Go.Proofs.Ythgpiimagbcmbaa
open Go.RowKit

theorem Tens.take {w : World} {A : Option Addr} {n : Nat} {l : TL} (h : Tens w A n l) {r : Nat} (hr : r ≤ n) : Tens w A r (l.take r) :=
  ⟨by rw [List.length_take, h.1]; omega, by have := h.2.1; omega, fun j x hx => by
    rw [List.getElem?_take] at hx
    split at hx
    · exact h.2.2 j x hx
    · cases hx⟩

set_option maxRecDepth 100000 in
set_option maxHeartbeats 12800000 in
theorem atells_walk {w : World} {A0 A1 A2 A3 A4 : Option Addr} {n0 c0 n1 c1 n2 c2 n3 c3 n4 c4 : Nat} {x0 a b rs rd : List Int} (x ax : Int) (h0 : Ints w A0 n0 x0) (h1 : Ints w A1 n1 a) (k1 : n1 ≤ c1) (h2 : Ints w A2 n2 b) (k2 : n2 ≤ c2)
    (hx : Fits x) (h3 : Ints w A3 n3 rs) (k3 : n3 ≤ c3) (h4 : Ints w A4 n4 rd) (k4 : n4 ≤ c4) :
    Calls Try.prog 3 #[.slice A0 n0 c0, .slice A1 n1 c1, .slice A2 n2 c2, .int .i64 x, .int .i64 ax, .agg #[.slice A3 n3 c3, .slice A4 n4 c4]] w fun e w' => e = .returned (.bool true) ∧ Below w.heap.size w w' := by
  have q0 := Below.refl w.heap.size w
  have q1 := q0.alloc (by simp) (.cells #[.slice A3 n3 c3, .slice A4 n4 c4] 25)
  have hT := tape_new (c := c0) (h0.below q1)
  have hz1 : ((w.alloc (.cells #[.slice A3 n3 c3, .slice A4 n4 c4] 25))).heap.size = w.heap.size + 1 := by simp
  rw [hz1] at hT
  have s1 := Sep.startTape hz1 hT
  have hq0 := heap_alloc_new w (.cells #[.slice A3 n3 c3, .slice A4 n4 c4] 25)
  have H_h1 := Lib.hid (h1.below q1)
  have H_h2 := Lib.hid (h2.below q1)
  have H_h3 := Lib.hid (h3.below q1)
  have H_h4 := Lib.hid (h4.below q1)
  clear hT
  go_enter Try.func3, Try.ntmps3
  go_upto_region 2 with fail
  generalize ((w.alloc (.cells #[.slice A3 n3 c3, .slice A4 n4 c4] 25))).alloc (.cells #[.slice A0 n0 c0, .int .i64 0] 28) = v at *
  generalize w.alloc (.cells #[.slice A3 n3 c3, .slice A4 n4 c4] 25) = wT at *
  have HQ := Lib.hid q1
  have HZ1 := Lib.hid hz1
  have H := Lib.hid s1
  generalize hgT : w.heap.size + 1 = gT at *
  clear s1 hz1 q0 q1 h0 h1 h2 h3 h4
  have HR0 := Lib.hid (cell0_of hq0)
  have HR1 := Lib.hid (cell1_of hq0)
  have HX := Lib.hid hx
  clear hq0 hx
  have C0 := tapeShape_any (H.out.tape 0 rfl)
  go_wp2_with fail
  refine C0.mono ?_; rintro e0 w0 ⟨⟨v, ns, s, rfl, hO, hns, hsh⟩, hR⟩
  obtain ⟨As, cs, rfl, hcs, hI, _⟩ := hO.form
  have Rs := Lib.hid (small_shape (by rw [hI.len]; exact hns) hsh)
  have Ds := Lib.hid hsh
  have Ls := Lib.hid hI.len
  replace H := Lib.hid (H.out.readOwn 0 rfl hR hO)
  clear C0 hO hI hsh hR
  have C1 := tapeTensor_any (c := cs) (H.out.tape 1 rfl) ((H.out.ownInts 0 rfl).2.2) (by omega)
  go_wp2_with fail
  refine C1.mono ?_; rintro e1 w1 ⟨⟨v, dt, rfl, hOT, hdl⟩, hR⟩
  obtain ⟨vs, vd, nt, mt, rfl, ho1, ho2⟩ := hOT
  obtain ⟨St, kt, rfl, _, _, _⟩ := ho1.form
  obtain ⟨Dt, jt, rfl, _, _, _⟩ := ho2.form
  have Lt := Lib.hid hdl
  have h5 := H.out.readOwn2 1 rfl hR ho1 ho2 (Ne.symm ty_ne.1)
  have h6 := h5.allocBox w1.heap.size 25 [.slice St nt kt, .slice Dt mt jt] rfl
  clear C1 ho1 ho2 h5 hR hdl
  go_upto_region 4 with fail
  generalize w1.alloc (.cells #[.slice St nt kt, .slice Dt mt jt] 25) = v1 at *
  generalize w1.heap.size = gt at *
  replace H := Lib.hid h6
  clear h6
  go_upto_if 30 with fail
  go_cut [1] (fun q wx => ∃ (r : Nat) (l : List Int), q = .slice A1 r c1 ∧ r ≤ 5 ∧ Ints wT A1 r l ∧ v1 = wx)
  case first =>
    by_cases g5 : 5 < n1
    · have I5 := H_h1.out.take (k := 5) (by omega)
      have HI5 := Lib.hid I5
      clear I5
      go_wp2_with fail
      go_meet
      exact ⟨5, _, rfl, by omega, HI5.out, rfl⟩
    · go_wp2_with fail
      go_meet
      exact ⟨n1, _, rfl, by omega, H_h1.out, rfl⟩
  case rest =>
    obtain ⟨ra, la, rfl, hra, hIa, rfl⟩ := hcut
    have Ia := Lib.hid hIa
    clear hIa
    go_upto_if 35 with fail
    go_cut [2] (fun q wx => ∃ (r : Nat) (l : List Int), q = .slice A2 r c2 ∧ r ≤ 5 ∧ Ints wT A2 r l ∧ v1 = wx)
    case first =>
      by_cases g5 : 5 < n2
      · have I5 := H_h2.out.take (k := 5) (by omega)
        have HI5 := Lib.hid I5
        clear I5
        go_wp2_with fail
        go_meet
        exact ⟨5, _, rfl, by omega, HI5.out, rfl⟩
      · go_wp2_with fail
        go_meet
        exact ⟨n2, _, rfl, by omega, H_h2.out, rfl⟩
    case rest =>
      obtain ⟨rb, lb, rfl, hrb, hIb, rfl⟩ := hcut
      have Ib := Lib.hid hIb
      clear hIb
      replace H := Lib.hid ((H.out.addNil 3).addNil 3)
      go_wp2_with fail
      go_loopw [40, 16, 17] (fun kv pv qv wr => ∃ (i : Nat) (ps qs : List Int), kv = .int .i64 i ∧ i ≤ ns ∧ Sep wT wr [.own 3 qv i qs, .own 3 pv i ps, .box gt 25 [.slice St nt kt, .slice Dt mt jt], .own 3 (.slice St nt kt) nt s, .own 2 (.slice Dt mt jt) mt dt, .own 3 (.slice As ns cs) ns s, .tape gT]) (fun kv _ _ _ => ns - (intOf kv).toNat)
      case atStart => exact ⟨0, [], [], rfl, by omega, H.out⟩
      case round =>
        clear H
        obtain ⟨i, ps, qs, rfl, hi, hS⟩ := hrel
        by_cases hli : i < ns
        · obtain ⟨sa, y, hsA, _, hy, hcy, hfy⟩ := ((hS.ownInts 5 rfl).2.2).at_ (k := i) hli
          subst hsA
          have hyb := Ds.out y (List.mem_of_getElem? hy)
          have HY := Lib.hid hy
          have H := Lib.hid hS
          clear hS hy hfy
          have hw : IntKind.i64.wrap (y + 2) = y + 2 := IntWalk.i64_in _ ⟨by omega, by omega⟩
          go_upto_region 12 with fail
          have H0 := Lib.hid H.out.drew
          refine wp_region_held_drew (S := (fun w' => w'.cell? (sa.add i) = some (.int .i64 y))) (by kernel_rfl) ?_ (fun hHeld => ?_)
          · exact hcy
          first | (refine takeU (i := 0) (oi := { dst := some 43, op := Op.move (Operand.tmp 16), type := 22, pos := "law.go:86", after := #[], guard := none }) rfl (by kernel_rfl) (by kernel_rfl) (by kernel_rfl) (fun _ _ _ h => h) ?_ hHeld ?_; (focus rfl)) | (refine takeW (i := 0) (oi := { dst := some 43, op := Op.move (Operand.tmp 16), type := 22, pos := "law.go:86", after := #[], guard := none }) ?_ rfl (by kernel_rfl) (by kernel_rfl) (by kernel_rfl) (fun _ _ _ h => h) ?_ ?_ hHeld ?_; rotate_left; (focus rfl); (focus (intro wq hSq; obtain sq0 := hSq; (first | (go_simp; done) | (go_simp; with_reducible rfl)))))
          try simp only [Act.put, List.setIfInBounds_toArray, List.set_cons_zero, List.set_cons_succ]
          first | (refine takeU (i := 1) (oi := { dst := some 44, op := Op.move (Operand.tmp 13), type := 26, pos := "law.go:86", after := #[], guard := none }) rfl (by kernel_rfl) (by kernel_rfl) (by kernel_rfl) (fun _ _ _ h => h) ?_ hHeld ?_; (focus rfl)) | (refine takeW (i := 1) (oi := { dst := some 44, op := Op.move (Operand.tmp 13), type := 26, pos := "law.go:86", after := #[], guard := none }) ?_ rfl (by kernel_rfl) (by kernel_rfl) (by kernel_rfl) (fun _ _ _ h => h) ?_ ?_ hHeld ?_; rotate_left; (focus rfl); (focus (intro wq hSq; obtain sq0 := hSq; (first | (go_simp; done) | (go_simp; with_reducible rfl)))))
          try simp only [Act.put, List.setIfInBounds_toArray, List.set_cons_zero, List.set_cons_succ]
          first | (refine takeU (i := 2) (oi := { dst := some 45, op := Op.move (Operand.tmp 14), type := 22, pos := "law.go:86", after := #[], guard := none }) rfl (by kernel_rfl) (by kernel_rfl) (by kernel_rfl) (fun _ _ _ h => h) ?_ hHeld ?_; (focus rfl)) | (refine takeW (i := 2) (oi := { dst := some 45, op := Op.move (Operand.tmp 14), type := 22, pos := "law.go:86", after := #[], guard := none }) ?_ rfl (by kernel_rfl) (by kernel_rfl) (by kernel_rfl) (fun _ _ _ h => h) ?_ ?_ hHeld ?_; rotate_left; (focus rfl); (focus (intro wq hSq; obtain sq0 := hSq; (first | (go_simp; done) | (go_simp; with_reducible rfl)))))
          try simp only [Act.put, List.setIfInBounds_toArray, List.set_cons_zero, List.set_cons_succ]
          first | (refine takeU (i := 3) (oi := { dst := some 46, op := Op.call { callee := Callee.builtin Builtin.len, args := #[Operand.tmp 45], argTypes := #[22] }, type := 3, pos := "law.go:86", after := #[{ on := 2, ground := Ground.data }], guard := none }) rfl (by kernel_rfl) (by kernel_rfl) (by kernel_rfl) (fun _ _ _ h => h) ?_ hHeld ?_; (focus rfl)) | (refine takeW (i := 3) (oi := { dst := some 46, op := Op.call { callee := Callee.builtin Builtin.len, args := #[Operand.tmp 45], argTypes := #[22] }, type := 3, pos := "law.go:86", after := #[{ on := 2, ground := Ground.data }], guard := none }) ?_ rfl (by kernel_rfl) (by kernel_rfl) (by kernel_rfl) (fun _ _ _ h => h) ?_ ?_ hHeld ?_; rotate_left; (focus rfl); (focus (intro wq hSq; obtain sq0 := hSq; (first | (go_simp; done) | (go_simp; with_reducible rfl)))))
          try simp only [Act.put, List.setIfInBounds_toArray, List.set_cons_zero, List.set_cons_succ]
          first | (refine takeU (i := 7) (oi := { dst := some 50, op := Op.move (Operand.tmp 17), type := 22, pos := "law.go:86", after := #[], guard := none }) rfl (by kernel_rfl) (by kernel_rfl) (by kernel_rfl) (fun _ _ _ h => h) ?_ hHeld ?_; (focus rfl)) | (refine takeW (i := 7) (oi := { dst := some 50, op := Op.move (Operand.tmp 17), type := 22, pos := "law.go:86", after := #[], guard := none }) ?_ rfl (by kernel_rfl) (by kernel_rfl) (by kernel_rfl) (fun _ _ _ h => h) ?_ ?_ hHeld ?_; rotate_left; (focus rfl); (focus (intro wq hSq; obtain sq0 := hSq; (first | (go_simp; done) | (go_simp; with_reducible rfl)))))
          try simp only [Act.put, List.setIfInBounds_toArray, List.set_cons_zero, List.set_cons_succ]
          first | (refine takeU (i := 8) (oi := { dst := some 51, op := Op.move (Operand.tmp 13), type := 26, pos := "law.go:86", after := #[], guard := none }) rfl (by kernel_rfl) (by kernel_rfl) (by kernel_rfl) (fun _ _ _ h => h) ?_ hHeld ?_; (focus rfl)) | (refine takeW (i := 8) (oi := { dst := some 51, op := Op.move (Operand.tmp 13), type := 26, pos := "law.go:86", after := #[], guard := none }) ?_ rfl (by kernel_rfl) (by kernel_rfl) (by kernel_rfl) (fun _ _ _ h => h) ?_ ?_ hHeld ?_; rotate_left; (focus rfl); (focus (intro wq hSq; obtain sq0 := hSq; (first | (go_simp; done) | (go_simp; with_reducible rfl)))))
          try simp only [Act.put, List.setIfInBounds_toArray, List.set_cons_zero, List.set_cons_succ]
          first | (refine takeU (i := 9) (oi := { dst := some 52, op := Op.move (Operand.tmp 14), type := 22, pos := "law.go:86", after := #[], guard := none }) rfl (by kernel_rfl) (by kernel_rfl) (by kernel_rfl) (fun _ _ _ h => h) ?_ hHeld ?_; (focus rfl)) | (refine takeW (i := 9) (oi := { dst := some 52, op := Op.move (Operand.tmp 14), type := 22, pos := "law.go:86", after := #[], guard := none }) ?_ rfl (by kernel_rfl) (by kernel_rfl) (by kernel_rfl) (fun _ _ _ h => h) ?_ ?_ hHeld ?_; rotate_left; (focus rfl); (focus (intro wq hSq; obtain sq0 := hSq; (first | (go_simp; done) | (go_simp; with_reducible rfl)))))
          try simp only [Act.put, List.setIfInBounds_toArray, List.set_cons_zero, List.set_cons_succ]
          first | (refine takeU (i := 10) (oi := { dst := some 53, op := Op.move (Operand.tmp 18), type := 3, pos := "law.go:86", after := #[], guard := none }) rfl (by kernel_rfl) (by kernel_rfl) (by kernel_rfl) (fun _ _ _ h => h) ?_ hHeld ?_; (focus rfl)) | (refine takeW (i := 10) (oi := { dst := some 53, op := Op.move (Operand.tmp 18), type := 3, pos := "law.go:86", after := #[], guard := none }) ?_ rfl (by kernel_rfl) (by kernel_rfl) (by kernel_rfl) (fun _ _ _ h => h) ?_ ?_ hHeld ?_; rotate_left; (focus rfl); (focus (intro wq hSq; obtain sq0 := hSq; (first | (go_simp; done) | (go_simp; with_reducible rfl)))))
          try simp only [Act.put, List.setIfInBounds_toArray, List.set_cons_zero, List.set_cons_succ]
          first | (refine takeU (i := 11) (oi := { dst := some 54, op := Op.indexAddr 22 (Operand.tmp 52) (Operand.tmp 53), type := 0, pos := "law.go:86", after := #[{ on := 9, ground := Ground.data }, { on := 10, ground := Ground.data }], guard := none }) rfl (by kernel_rfl) (by kernel_rfl) (by kernel_rfl) (fun _ _ _ h => h) ?_ hHeld ?_; (focus rfl)) | (refine takeW (i := 11) (oi := { dst := some 54, op := Op.indexAddr 22 (Operand.tmp 52) (Operand.tmp 53), type := 0, pos := "law.go:86", after := #[{ on := 9, ground := Ground.data }, { on := 10, ground := Ground.data }], guard := none }) ?_ rfl (by kernel_rfl) (by kernel_rfl) (by kernel_rfl) (fun _ _ _ h => h) ?_ ?_ hHeld ?_; rotate_left; (focus rfl); (focus (intro wq hSq; obtain sq0 := hSq; (first | (go_simp; done) | (go_simp; with_reducible rfl)))))
          try simp only [Act.put, List.setIfInBounds_toArray, List.set_cons_zero, List.set_cons_succ]
          first | (refine takeU (i := 12) (oi := { dst := some 55, op := Op.load 3 (Operand.tmp 54), type := 3, pos := "law.go:86", after := #[{ on := 11, ground := Ground.data }], guard := none }) rfl (by kernel_rfl) (by kernel_rfl) (by kernel_rfl) (fun _ _ _ h => h) ?_ hHeld ?_; (focus rfl)) | (refine takeW (i := 12) (oi := { dst := some 55, op := Op.load 3 (Operand.tmp 54), type := 3, pos := "law.go:86", after := #[{ on := 11, ground := Ground.data }], guard := none }) ?_ rfl (by kernel_rfl) (by kernel_rfl) (by kernel_rfl) (fun _ _ _ h => h) ?_ ?_ hHeld ?_; rotate_left; (focus rfl); (focus (intro wq hSq; obtain sq0 := hSq; (first | (go_simp; done) | (go_simp; with_reducible rfl)))))
          try simp only [Act.put, List.setIfInBounds_toArray, List.set_cons_zero, List.set_cons_succ]
          first | (refine takeU (i := 13) (oi := { dst := some 56, op := Op.binOp BinOp.add 3 (Operand.tmp 55) (Operand.const (Value.int IntKind.i64 2)) 3, type := 3, pos := "law.go:86", after := #[{ on := 12, ground := Ground.data }], guard := none }) rfl (by kernel_rfl) (by kernel_rfl) (by kernel_rfl) (fun _ _ _ h => h) ?_ hHeld ?_; (focus rfl)) | (refine takeW (i := 13) (oi := { dst := some 56, op := Op.binOp BinOp.add 3 (Operand.tmp 55) (Operand.const (Value.int IntKind.i64 2)) 3, type := 3, pos := "law.go:86", after := #[{ on := 12, ground := Ground.data }], guard := none }) ?_ rfl (by kernel_rfl) (by kernel_rfl) (by kernel_rfl) (fun _ _ _ h => h) ?_ ?_ hHeld ?_; rotate_left; (focus rfl); (focus (intro wq hSq; obtain sq0 := hSq; (first | (go_simp; done) | (go_simp; with_reducible rfl)))))
          try simp only [Act.put, List.setIfInBounds_toArray, List.set_cons_zero, List.set_cons_succ]
          refine wpAnyH_ready (rs := [4]) (by kernel_rfl) (by simp) ?_
          refine AllReadyH.cons (o := { dst := some 47, op := Op.call { callee := Callee.value (Operand.func 9), args := #[Operand.tmp 44, Operand.tmp 46], argTypes := #[26, 3] }, type := 3, pos := "law.go:86", after := #[{ on := 1, ground := Ground.data }, { on := 3, ground := Ground.data }], guard := none }) rfl (fun K hK => ?_) AllReadyH.nil
          first | (refine effU ?_ ?_; (focus rfl)) | (go_simp; (go_at_call 9; refine (next_any (ns : Int) (H0.out.tape 6 rfl) ⟨by omega, by omega⟩).mono ?_; rintro e2 w2 ⟨⟨r2, rfl, hr2, hr3⟩, hR⟩; have H2 := Lib.hid (H0.out.read 6 rfl hR); have hcy2 := ((H2.out.ownInts 5 rfl).2.2).get HY.out; clear hR); go_wp2_with fail)
          refine hK.out _ _ ?_ (fun hHeld2 => ?_)
          · first | assumption | (exact hcy2)
          clear hK K hHeld
          have hHeld := hHeld2; clear hHeld2
          try simp only [Act.put, List.setIfInBounds_toArray, List.set_cons_zero, List.set_cons_succ]
          refine wpAnyH_ready (rs := [5]) (by kernel_rfl) (by simp) ?_
          refine AllReadyH.cons (o := { dst := some 48, op := Op.buildSlice 22 1 #[(0, Operand.tmp 47)], type := 22, pos := "law.go:86", after := #[{ on := 4, ground := Ground.data }], guard := none }) rfl (fun K hK => ?_) AllReadyH.nil
          go_simp
          try go_wp2_with fail
          refine hK.out _ _ ?_ (fun hHeld2 => ?_)
          · first | assumption | (exact alloc_keep _ hcy2)
          clear hK K hHeld
          have hHeld := hHeld2; clear hHeld2
          try simp only [Act.put, List.setIfInBounds_toArray, List.set_cons_zero, List.set_cons_succ]
          refine wpAnyH_ready (rs := [6]) (by kernel_rfl) (by simp) ?_
          refine AllReadyH.cons (o := { dst := some 49, op := Op.call { callee := Callee.builtin Builtin.append, args := #[Operand.tmp 43, Operand.tmp 48], argTypes := #[22, 22] }, type := 22, pos := "law.go:86", after := #[{ on := 0, ground := Ground.data }, { on := 5, ground := Ground.data }, { on := 4, ground := Ground.chain }], guard := none }) rfl (fun K hK => ?_) AllReadyH.nil
          (refine step_append_sep rfl (.tmp 43) (.tmp 48) 22 3 rfl Try.underlying22 Try.infoInt H2.out 1 rfl rfl r2 ⟨by omega, by omega⟩ _ rfl ?_ ?_; (focus omega); intro v3 w3 h3; have H3 := Lib.hid h3; have hcy3 := ((H3.out.ownInts 5 rfl).2.2).get HY.out; clear h3)
          refine hK.out _ _ ?_ (fun hHeld2 => ?_)
          · first | assumption | (exact hcy3)
          clear hK K hHeld
          have hHeld := hHeld2; clear hHeld2
          try simp only [Act.put, List.setIfInBounds_toArray, List.set_cons_zero, List.set_cons_succ]
          refine wpAnyH_ready (rs := [14]) (by kernel_rfl) (by simp) ?_
          refine AllReadyH.cons (o := { dst := some 57, op := Op.call { callee := Callee.value (Operand.func 9), args := #[Operand.tmp 51, Operand.tmp 56], argTypes := #[26, 3] }, type := 3, pos := "law.go:86", after := #[{ on := 8, ground := Ground.data }, { on := 13, ground := Ground.data }, { on := 6, ground := Ground.chain }], guard := none }) rfl (fun K hK => ?_) AllReadyH.nil
          first | (refine effU ?_ ?_; (focus rfl)) | (go_simp; (go_at_call 9; refine (next_any (y + 2) (H3.out.tape 6 rfl) ⟨by omega, by omega⟩).mono ?_; rintro e4 w4 ⟨⟨r4, rfl, hr4, hr5⟩, hR⟩; have H4 := Lib.hid (H3.out.read 6 rfl hR); have hcy4 := ((H4.out.ownInts 5 rfl).2.2).get HY.out; clear hR); go_wp2_with fail)
          refine hK.out _ _ ?_ (fun hHeld2 => ?_)
          · first | assumption | (exact hcy4)
          clear hK K hHeld
          have hHeld := hHeld2; clear hHeld2
          try simp only [Act.put, List.setIfInBounds_toArray, List.set_cons_zero, List.set_cons_succ]
          refine wpAnyH_ready (rs := [15]) (by kernel_rfl) (by simp) ?_
          refine AllReadyH.cons (o := { dst := some 58, op := Op.buildSlice 22 1 #[(0, Operand.tmp 57)], type := 22, pos := "law.go:86", after := #[{ on := 14, ground := Ground.data }], guard := none }) rfl (fun K hK => ?_) AllReadyH.nil
          go_simp
          try go_wp2_with fail
          refine hK.out _ _ ?_ (fun hHeld2 => ?_)
          · first | assumption | (exact alloc_keep _ hcy4)
          clear hK K hHeld
          have hHeld := hHeld2; clear hHeld2
          try simp only [Act.put, List.setIfInBounds_toArray, List.set_cons_zero, List.set_cons_succ]
          refine wpAnyH_ready (rs := [16]) (by kernel_rfl) (by simp) ?_
          refine AllReadyH.cons (o := { dst := some 59, op := Op.call { callee := Callee.builtin Builtin.append, args := #[Operand.tmp 50, Operand.tmp 58], argTypes := #[22, 22] }, type := 22, pos := "law.go:86", after := #[{ on := 7, ground := Ground.data }, { on := 15, ground := Ground.data }, { on := 14, ground := Ground.chain }], guard := none }) rfl (fun K hK => ?_) AllReadyH.nil
          (refine step_append_sep rfl (.tmp 50) (.tmp 58) 22 3 rfl Try.underlying22 Try.infoInt H4.out 0 rfl rfl r4 ⟨by omega, by omega⟩ _ rfl ?_ ?_; (focus omega); intro v5 w5 h5; have H5 := Lib.hid h5; have hcy5 := ((H5.out.ownInts 5 rfl).2.2).get HY.out; clear h5)
          refine hK.out _ _ ?_ (fun hHeld2 => ?_)
          · first | assumption | (exact hcy5)
          clear hK K hHeld
          have hHeld := hHeld2; clear hHeld2
          try simp only [Act.put, List.setIfInBounds_toArray, List.set_cons_zero, List.set_cons_succ]
          first | (refine takeU (i := 17) (oi := { dst := some 16, op := Op.assign (Operand.tmp 49), type := 22, pos := "law.go:86", after := #[{ on := 6, ground := Ground.data }, { on := 16, ground := Ground.chain }, { on := 0, ground := Ground.phase }, { on := 1, ground := Ground.phase }, { on := 2, ground := Ground.phase }, { on := 3, ground := Ground.phase }, { on := 4, ground := Ground.phase }, { on := 5, ground := Ground.phase }, { on := 6, ground := Ground.phase }, { on := 7, ground := Ground.textOnly Departure.lateStores }, { on := 8, ground := Ground.textOnly Departure.lateStores }, { on := 9, ground := Ground.textOnly Departure.lateStores }, { on := 10, ground := Ground.textOnly Departure.lateStores }, { on := 11, ground := Ground.textOnly Departure.lateStores }, { on := 12, ground := Ground.textOnly Departure.lateStores }, { on := 13, ground := Ground.textOnly Departure.lateStores }, { on := 14, ground := Ground.textOnly Departure.lateStoresUnsure }, { on := 15, ground := Ground.textOnly Departure.lateStores }, { on := 16, ground := Ground.textOnly Departure.lateStoresUnsure }], guard := none }) rfl (by kernel_rfl) (by kernel_rfl) (by kernel_rfl) (fun _ _ _ h => h) ?_ hHeld ?_; (focus rfl)) | (refine takeW (i := 17) (oi := { dst := some 16, op := Op.assign (Operand.tmp 49), type := 22, pos := "law.go:86", after := #[{ on := 6, ground := Ground.data }, { on := 16, ground := Ground.chain }, { on := 0, ground := Ground.phase }, { on := 1, ground := Ground.phase }, { on := 2, ground := Ground.phase }, { on := 3, ground := Ground.phase }, { on := 4, ground := Ground.phase }, { on := 5, ground := Ground.phase }, { on := 6, ground := Ground.phase }, { on := 7, ground := Ground.textOnly Departure.lateStores }, { on := 8, ground := Ground.textOnly Departure.lateStores }, { on := 9, ground := Ground.textOnly Departure.lateStores }, { on := 10, ground := Ground.textOnly Departure.lateStores }, { on := 11, ground := Ground.textOnly Departure.lateStores }, { on := 12, ground := Ground.textOnly Departure.lateStores }, { on := 13, ground := Ground.textOnly Departure.lateStores }, { on := 14, ground := Ground.textOnly Departure.lateStoresUnsure }, { on := 15, ground := Ground.textOnly Departure.lateStores }, { on := 16, ground := Ground.textOnly Departure.lateStoresUnsure }], guard := none }) ?_ rfl (by kernel_rfl) (by kernel_rfl) (by kernel_rfl) (fun _ _ _ h => h) ?_ ?_ hHeld ?_; rotate_left; (focus rfl); (focus (intro wq hSq; obtain sq0 := hSq; (first | (go_simp; done) | (go_simp; with_reducible rfl)))))
          try simp only [Act.put, List.setIfInBounds_toArray, List.set_cons_zero, List.set_cons_succ]
          first | (refine takeU (i := 18) (oi := { dst := some 17, op := Op.assign (Operand.tmp 59), type := 22, pos := "law.go:86", after := #[{ on := 16, ground := Ground.data }, { on := 17, ground := Ground.chain }, { on := 0, ground := Ground.phase }, { on := 1, ground := Ground.phase }, { on := 2, ground := Ground.phase }, { on := 3, ground := Ground.phase }, { on := 4, ground := Ground.phase }, { on := 5, ground := Ground.phase }, { on := 6, ground := Ground.phase }, { on := 7, ground := Ground.phase }, { on := 8, ground := Ground.phase }, { on := 9, ground := Ground.phase }, { on := 10, ground := Ground.phase }, { on := 11, ground := Ground.phase }, { on := 12, ground := Ground.phase }, { on := 13, ground := Ground.phase }, { on := 14, ground := Ground.phase }, { on := 15, ground := Ground.phase }, { on := 16, ground := Ground.phase }, { on := 17, ground := Ground.phase }], guard := none }) rfl (by kernel_rfl) (by kernel_rfl) (by kernel_rfl) (fun _ _ _ h => h) ?_ hHeld ?_; (focus rfl)) | (refine takeW (i := 18) (oi := { dst := some 17, op := Op.assign (Operand.tmp 59), type := 22, pos := "law.go:86", after := #[{ on := 16, ground := Ground.data }, { on := 17, ground := Ground.chain }, { on := 0, ground := Ground.phase }, { on := 1, ground := Ground.phase }, { on := 2, ground := Ground.phase }, { on := 3, ground := Ground.phase }, { on := 4, ground := Ground.phase }, { on := 5, ground := Ground.phase }, { on := 6, ground := Ground.phase }, { on := 7, ground := Ground.phase }, { on := 8, ground := Ground.phase }, { on := 9, ground := Ground.phase }, { on := 10, ground := Ground.phase }, { on := 11, ground := Ground.phase }, { on := 12, ground := Ground.phase }, { on := 13, ground := Ground.phase }, { on := 14, ground := Ground.phase }, { on := 15, ground := Ground.phase }, { on := 16, ground := Ground.phase }, { on := 17, ground := Ground.phase }], guard := none }) ?_ rfl (by kernel_rfl) (by kernel_rfl) (by kernel_rfl) (fun _ _ _ h => h) ?_ ?_ hHeld ?_; rotate_left; (focus rfl); (focus (intro wq hSq; obtain sq0 := hSq; (first | (go_simp; done) | (go_simp; with_reducible rfl)))))
          try simp only [Act.put, List.setIfInBounds_toArray, List.set_cons_zero, List.set_cons_succ]
          refine wpAnyH_done (by kernel_rfl) ?_ _
          go_wp2
          go_roundw
          case rel => exact ⟨i + 1, ps ++ [r2], qs ++ [r4], by go_num, by omega, H5.out⟩
          case measure => simp [intOf]; omega
        · have hin : ns = i := by omega
          subst hin
          obtain ⟨Aq, cq, hvq, hcq, _, _⟩ := (hS.ownS 0 rfl).form
          subst hvq
          obtain ⟨Ap, cp, hvp, hcp, _, _⟩ := (hS.ownS 1 rfl).form
          subst hvp
          have H := Lib.hid hS
          clear hS hli
          go_upto_region 14 with fail
          go_cut [19] (fun z wx => ∃ (gl rn : Nat) (L : TL), z = .slice (some ⟨gl, 0, none⟩) rn 3 ∧ rn ≤ 3 ∧ Tens wx (some ⟨gl, 0, none⟩) rn L ∧ Sep wT wx [.own 3 (.slice Aq ns cq) ns qs, .own 3 (.slice Ap ns cp) ns ps, .box gt 25 [.slice St nt kt, .slice Dt mt jt], .own 3 (.slice St nt kt) nt s, .own 2 (.slice Dt mt jt) mt dt, .own 3 (.slice As ns cs) ns s, .tape gT])
          case first =>
            have b0 := H.out.cell 2 0 rfl rfl
            have b1 := H.out.cell 2 1 rfl rfl
            have H0 := Lib.hid H.out.drew
            go_region_held3 (fun w' => w'.cell? ⟨gt, 0, none⟩ = some (.slice St nt kt) ∧ w'.cell? ⟨gt, 1, none⟩ = some (.slice Dt mt jt)) (go_keep)
              (first
                | (have h7 := H7.out.allocBox w7.heap.size 25 [.slice St nt kt, .slice Dt mt jt, .slice S5 n5 k5, .slice D5 m5 j5, .slice S7 n7 k7, .slice D7 m7 j7] rfl; go_at_call 9; have CC := next_any 3 (h7.tape 12 rfl) ⟨by omega, by omega⟩; (with_reducible refine CC.mono ?_); clear CC; rintro e8 w8 ⟨⟨r8, rfl, hr8, hr9⟩, hR⟩; obtain ⟨r8n, rfl⟩ := Int.eq_ofNat_of_zero_le hr8; have hrn : r8n < 3 := (by omega); have hwr : IntKind.i64.wrap (1 + (r8n : Int)) = ((1 + r8n : Nat) : Int) := (by rw [show (1 : Int) + (r8n : Int) = ((1 + r8n : Nat) : Int) by omega]; exact IntWalk.i64_in _ ⟨by omega, by omega⟩); have hb1 : (0 : Int) ≤ 1 + (r8n : Int) := (by omega); have hb2 : 1 + (r8n : Int) ≤ 3 := (by omega); have hb3 : 1 + r8n ≤ 3 := (by omega); have H9 := Lib.hid (h7.read 12 rfl hR); clear hR h7; have u0 := H9.out.cell 8 0 rfl rfl; have u1 := H9.out.cell 8 1 rfl rfl)
                | (go_at_call 9; have CC := next_any 3 (H7.out.tape 11 rfl) ⟨by omega, by omega⟩; (with_reducible refine CC.mono ?_); clear CC; rintro e8 w8 ⟨⟨r8, rfl, hr8, hr9⟩, hR⟩; obtain ⟨r8n, rfl⟩ := Int.eq_ofNat_of_zero_le hr8; have hrn : r8n < 3 := (by omega); have hwr : IntKind.i64.wrap (1 + (r8n : Int)) = ((1 + r8n : Nat) : Int) := (by rw [show (1 : Int) + (r8n : Int) = ((1 + r8n : Nat) : Int) by omega]; exact IntWalk.i64_in _ ⟨by omega, by omega⟩); have hb1 : (0 : Int) ≤ 1 + (r8n : Int) := (by omega); have hb2 : 1 + (r8n : Int) ≤ 3 := (by omega); have hb3 : 1 + r8n ≤ 3 := (by omega); have H8 := Lib.hid (H7.out.read 11 rfl hR); clear hR; have u0 := H8.out.cell 7 0 rfl rfl; have u1 := H8.out.cell 7 1 rfl rfl; have ku0 := fun o => alloc_keep o u0; have ku1 := fun o => alloc_keep o u1)
                | (go_at_call 8; have CC := tapeTensor_any (c := c6) (H6.out.tape 9 rfl) ((H6.out.ownInts 0 rfl).2.2) (by omega); (with_reducible refine CC.mono ?_); clear CC; rintro e7 w7 ⟨⟨v, d7, rfl, hOT, _⟩, hR⟩; obtain ⟨vs, vd, n7, m7, rfl, ho1, ho2⟩ := hOT; obtain ⟨S7, k7, rfl, _, _, _⟩ := ho1.form; obtain ⟨D7, j7, rfl, _, _, _⟩ := ho2.form; have H7 := Lib.hid (H6.out.readOwn2 9 rfl hR ho1 ho2 (Ne.symm ty_ne.1)); clear ho1 ho2 hR; have z0 := H7.out.cell 7 0 rfl rfl; have z1 := H7.out.cell 7 1 rfl rfl; have kz0 := fun o => alloc_keep o z0; have kz1 := fun o => alloc_keep o z1)
                | (go_at_call 7; have CC := tapeShape_any (H5.out.tape 8 rfl); (with_reducible refine CC.mono ?_); clear CC; rintro e6 w6 ⟨⟨v, n6, s6, rfl, hO, hn6, _⟩, hR⟩; obtain ⟨A6, c6, rfl, hc6, _, _⟩ := hO.form; have H6 := Lib.hid (H5.out.readOwn 8 rfl hR hO); clear hO hR; have y0 := H6.out.cell 5 0 rfl rfl; have y1 := H6.out.cell 5 1 rfl rfl)
                | (go_at_call 8; have CC := tapeTensor_any (c := cs) (H0.out.tape 6 rfl) ((H0.out.ownInts 5 rfl).2.2) (by omega); (with_reducible refine CC.mono ?_); clear CC; rintro e5 w5 ⟨⟨v, d5, rfl, hOT, _⟩, hR⟩; obtain ⟨vs, vd, n5, m5, rfl, ho1, ho2⟩ := hOT; obtain ⟨S5, k5, rfl, _, _, _⟩ := ho1.form; obtain ⟨D5, j5, rfl, _, _, _⟩ := ho2.form; have H5 := Lib.hid (H0.out.readOwn2 6 rfl hR ho1 ho2 (Ne.symm ty_ne.1)); clear ho1 ho2 hR; have x0 := H5.out.cell 4 0 rfl rfl; have x1 := H5.out.cell 4 1 rfl rfl))
            all_goals go_wp2_with fail
            all_goals go_meet
            · exact ⟨w7.heap.size, 1 + r8n, _, rfl, by omega, (tens_three (H9.out.heap 0 rfl) (ten_mk (H9.out.ownInts 9 rfl).2.2 (H9.out.ownInts 9 rfl).2.1 (H9.out.ownInts 10 rfl).2.2 (H9.out.ownInts 10 rfl).2.1) (ten_mk (H9.out.ownInts 4 rfl).2.2 (H9.out.ownInts 4 rfl).2.1 (H9.out.ownInts 5 rfl).2.2 (H9.out.ownInts 5 rfl).2.1) (ten_mk (H9.out.ownInts 1 rfl).2.2 (H9.out.ownInts 1 rfl).2.1 (H9.out.ownInts 2 rfl).2.2 (H9.out.ownInts 2 rfl).2.1)).take hb3, H9.out.sub [6, 7, 8, 9, 10, 11, 12] rfl (by decide)⟩
            · have h9 := H8.out.allocBox w8.heap.size 25 [.slice St nt kt, .slice Dt mt jt, .slice S5 n5 k5, .slice D5 m5 j5, .slice S7 n7 k7, .slice D7 m7 j7] rfl
              exact ⟨w8.heap.size, 1 + r8n, _, rfl, by omega, (tens_three (h9.heap 0 rfl) (ten_mk (h9.ownInts 9 rfl).2.2 (h9.ownInts 9 rfl).2.1 (h9.ownInts 10 rfl).2.2 (h9.ownInts 10 rfl).2.1) (ten_mk (h9.ownInts 4 rfl).2.2 (h9.ownInts 4 rfl).2.1 (h9.ownInts 5 rfl).2.2 (h9.ownInts 5 rfl).2.1) (ten_mk (h9.ownInts 1 rfl).2.2 (h9.ownInts 1 rfl).2.1 (h9.ownInts 2 rfl).2.2 (h9.ownInts 2 rfl).2.1)).take hb3, h9.sub [6, 7, 8, 9, 10, 11, 12] rfl (by decide)⟩
          case rest =>
            obtain ⟨gl, rn, L, rfl, hrn3, hL, hS⟩ := hcut
            have HL := Lib.hid hL
            replace H := Lib.hid hS
            clear hL hS
            have t0 := H.out.cell 2 0 rfl rfl
            have t1 := H.out.cell 2 1 rfl rfl
            go_wp2_with fail
            refine (l5same_any (ca := cp) (cb := cq) (cl := 3) x _ (ten_mk (H.out.ownInts 3 rfl).2.2 (H.out.ownInts 3 rfl).2.1 (H.out.ownInts 4 rfl).2.2 (H.out.ownInts 4 rfl).2.1) ((H.out.ownInts 1 rfl).2.2) ((H.out.ownInts 0 rfl).2.2) HL.out HX.out (by omega)).mono ?_; rintro e2 w2 ⟨rfl, hb⟩
            replace H := Lib.hid (H.out.below hb)
            replace HL := Lib.hid (HL.out.below hb)
            clear hb t0 t1
            have t0 := H.out.cell 2 0 rfl rfl
            have t1 := H.out.cell 2 1 rfl rfl
            go_wp2_with fail
            refine (l5same_any (ca := c1) (cb := c2) (cl := 3) x ax (ten_mk (H.out.ownInts 3 rfl).2.2 (H.out.ownInts 3 rfl).2.1 (H.out.ownInts 4 rfl).2.2 (H.out.ownInts 4 rfl).2.1) (H.out.oldI Ia.out) (H.out.oldI Ib.out) HL.out HX.out (by omega)).mono ?_; rintro e3 w3 ⟨rfl, hb⟩
            replace H := Lib.hid (H.out.below hb)
            replace HL := Lib.hid (HL.out.below hb)
            clear hb t0 t1
            have t0 := H.out.cell 2 0 rfl rfl
            have t1 := H.out.cell 2 1 rfl rfl
            have r0 := H.out.oldCell (p := ⟨w.heap.size, 0, none⟩) (by have := HZ1.out; show w.heap.size < wT.heap.size; omega) HR0.out
            have r1 := H.out.oldCell (p := ⟨w.heap.size, 1, none⟩) (by have := HZ1.out; show w.heap.size < wT.heap.size; omega) HR1.out
            have h9 := H.out.allocBox w3.heap.size 25 [.slice A3 n3 c3, .slice A4 n4 c4, .slice St nt kt, .slice Dt mt jt] rfl
            have H9 := Lib.hid h9
            clear h9
            go_wp2_with fail
            refine (l5same_any (ca := c1) (cb := cq) (cl := 2) x ax (H9.out.oldTen (ten_mk H_h3.out k3 H_h4.out k4)) (H9.out.oldI Ia.out) ((H9.out.ownInts 1 rfl).2.2) (tens_two (H9.out.heap 0 rfl) (H9.out.oldTen (ten_mk H_h3.out k3 H_h4.out k4)) (ten_mk (H9.out.ownInts 4 rfl).2.2 (H9.out.ownInts 4 rfl).2.1 (H9.out.ownInts 5 rfl).2.2 (H9.out.ownInts 5 rfl).2.1)) HX.out (by omega)).mono ?_; rintro e4 w4 ⟨rfl, hb⟩
            replace H := Lib.hid (H9.out.below hb)
            clear hb H9 t0 t1 r0 r1
            go_wp2_with fail
            refine (l5known_any _).mono ?_; rintro e9 w9 ⟨rfl, hb⟩
            replace H := Lib.hid (H.out.below hb)
            clear hb
            go_wp2
            go_ret
            exact ⟨rfl, then_ HQ.out H.out.base⟩
end Go.Proofs.Ythgpiimagbcmbaa
