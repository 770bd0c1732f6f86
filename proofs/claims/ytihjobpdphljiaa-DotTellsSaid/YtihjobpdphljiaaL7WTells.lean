/- The walk of the law DotTells. -/
import Derived.Test.YtihjobpdphljiaaL7Same
import Derived.Test.YtihjobpdphljiaaSepD
import Derived.Test.YtihjobpdphljiaaKitReg
import Derived.Test.YtihjobpdphljiaaBox
namespace Go.Proofs.Ytihjobpdphljiaa
open Go.RowKit

set_option maxRecDepth 100000 in
set_option maxHeartbeats 12800000 in
theorem dtells_walk {w : World} {A0 A3 A4 A5 A6 : Option Addr} {n0 c0 n3 c3 n4 c4 n5 c5 n6 c6 : Nat} {x0 rs rd qs qd : List Int} (nn : Int) (h0 : Ints w A0 n0 x0)
    (h3 : Ints w A3 n3 rs) (k3 : n3 ≤ c3) (h4 : Ints w A4 n4 rd) (k4 : n4 ≤ c4) (h5 : Ints w A5 n5 qs) (k5 : n5 ≤ c5) (h6 : Ints w A6 n6 qd) (k6 : n6 ≤ c6) :
    Calls Try.prog 4 #[.slice A0 n0 c0, .int .i64 nn, .agg #[.slice A3 n3 c3, .slice A4 n4 c4], .agg #[.slice A5 n5 c5, .slice A6 n6 c6]] w fun e w' => e = .returned (.bool true) ∧ Below w.heap.size w w' := by
  have sB := ((Sep.nil w).allocBox w.heap.size 26 [.slice A3 n3 c3, .slice A4 n4 c4] rfl).allocBox (w.heap.size + 1) 26 [.slice A5 n5 c5, .slice A6 n6 c6] (by simp)
  have q0 := Below.refl w.heap.size w
  have q1 := q0.alloc (by simp) (.cells #[.slice A3 n3 c3, .slice A4 n4 c4] 26)
  have q2 := q1.alloc (by simp) (.cells #[.slice A5 n5 c5, .slice A6 n6 c6] 26)
  have hT := tape_new (c := c0) (h0.below q2)
  have hz1 : (((w.alloc (.cells #[.slice A3 n3 c3, .slice A4 n4 c4] 26)).alloc (.cells #[.slice A5 n5 c5, .slice A6 n6 c6] 26))).heap.size = w.heap.size + 1 + 1 := by simp
  rw [hz1] at hT
  have s1 := Sep.startTape hz1 hT
  have H_h3 := Lib.hid (h3.below q2)
  have H_h4 := Lib.hid (h4.below q2)
  have H_h5 := Lib.hid (h5.below q2)
  have H_h6 := Lib.hid (h6.below q2)
  clear hT
  go_enter Try.func4, Try.ntmps4
  go_upto_region 2 with fail
  generalize (((w.alloc (.cells #[.slice A3 n3 c3, .slice A4 n4 c4] 26)).alloc (.cells #[.slice A5 n5 c5, .slice A6 n6 c6] 26))).alloc (.cells #[.slice A0 n0 c0, .int .i64 0] 33) = v at *
  generalize (w.alloc (.cells #[.slice A3 n3 c3, .slice A4 n4 c4] 26)).alloc (.cells #[.slice A5 n5 c5, .slice A6 n6 c6] 26) = wT at *
  have HQ := Lib.hid q2
  have HZ1 := Lib.hid hz1
  have H := Lib.hid s1
  generalize hgT : w.heap.size + 1 + 1 = gT at *
  clear s1 hz1 q0 q1 q2 h0 h3 h4 h5 h6
  have hl0 := (sB.blockLt 1 rfl).2
  have hl1 := (sB.blockLt 0 rfl).2
  have B0 := Lib.hid (sB.cell 1 0 rfl rfl)
  have B1 := Lib.hid (sB.cell 1 1 rfl rfl)
  have B2 := Lib.hid (sB.cell 0 0 rfl rfl)
  have B3 := Lib.hid (sB.cell 0 1 rfl rfl)
  clear sB
  have C0 := tapeShape_any (H.out.tape 0 rfl)
  go_wp2_with fail
  refine C0.mono ?_; rintro e0 w0 ⟨⟨v, ns, s, rfl, hO, hns, hsh⟩, hR⟩
  obtain ⟨As, cs, rfl, hcs, hI, _⟩ := hO.form
  have Rs := Lib.hid (small_shape (by rw [hI.len]; exact hns) hsh)
  have Ds := Lib.hid hsh
  have Ls := Lib.hid hI.len
  replace H := Lib.hid (H.out.readOwn 0 rfl hR hO)
  clear C0 hO hI hsh hR
  have C1 := tapeShape_any (H.out.tape 1 rfl)
  go_wp2_with fail
  refine C1.mono ?_; rintro e1 w1 ⟨⟨v, no, o, rfl, hO, hno, hsh⟩, hR⟩
  obtain ⟨Ao, co, rfl, hco, hI, _⟩ := hO.form
  have Ro := Lib.hid (small_shape (by rw [hI.len]; exact hno) hsh)
  have Do := Lib.hid hsh
  have Lo := Lib.hid hI.len
  replace H := Lib.hid (H.out.readOwn 1 rfl hR hO)
  clear C1 hO hI hsh hR
  go_wp2_with fail
  refine (next_any 3 (H.out.tape 2 rfl) ⟨by omega, by omega⟩).mono ?_; rintro e5 w5 ⟨⟨r, rfl, hr0, hr1⟩, hR⟩
  replace H := Lib.hid (H.out.read 2 rfl hR)
  clear hR
  obtain ⟨kk, rfl⟩ := Int.eq_ofNat_of_zero_le hr0
  go_upto_region 4 with fail
  go_cut [31] (fun q wx => ∃ b : Bool, q = .bool b ∧ (b = true → kk < ns ∧ kk < no) ∧ Sep wT wx [.own 3 (.slice Ao no co) no o, .own 3 (.slice As ns cs) ns s, .tape gT])
  case first =>
    by_cases g1 : kk < ns
    · have d1 : decide (kk < ns) = true := by simpa using g1
      by_cases g2 : kk < no
      · have d2 : decide (kk < no) = true := by simpa using g2
        go_wp2_with fail
        go_meet
        exact ⟨true, rfl, fun _ => ⟨g1, g2⟩, H.out⟩
      · have d2 : decide (kk < no) = false := by simpa using g2
        go_wp2_with fail
        go_meet
        exact ⟨false, rfl, (fun h => by cases h), H.out⟩
    · have d1 : decide (kk < ns) = false := by simpa using g1
      go_wp2_with fail
      go_meet
      exact ⟨false, rfl, (fun h => by cases h), H.out⟩
  case rest =>
    obtain ⟨b, rfl, hb, hS⟩ := hcut
    clear H
    have H := Lib.hid hS
    have HB := Lib.hid hb
    clear hS hb
    go_upto_if 31 with fail
    go_cut [] (fun wx => ∃ O : List Int, Sep wT wx [.own 3 (.slice Ao no co) no O, .own 3 (.slice As ns cs) ns s, .tape gT])
    case first =>
      cases b
      case false => go_wp2_with fail; go_meet; exact ⟨_, H.out⟩
      case true =>
        obtain ⟨g1, g2⟩ := HB.out rfl
        have hko : kk ≤ no := by omega
        have hks : kk ≤ ns := by omega
        obtain ⟨go, cb, hv, hO⟩ := (H.out.ownS 0 rfl).own (by omega)
        injection hv with hv1 _ hv3
        subst hv1
        subst hv3
        clear hO
        obtain ⟨sa, y, hsA, _, hy, hcy, hfy⟩ := ((H.out.ownInts 1 rfl).2.2).at_ (k := ns - 1) (by omega)
        subst hsA
        have hw1 : IntKind.i64.wrap ((ns : Int) - 1) = ((ns - 1 : Nat) : Int) := by rw [show (ns : Int) - 1 = ((ns - 1 : Nat) : Int) by omega]; exact IntWalk.i64_in _ ⟨by omega, by omega⟩
        have ht1 := run_takeO (H.out.ownS 0 rfl) hko
        have ht2 := run_takeO (H.out.ownS 1 rfl) hks
        have H0 := Lib.hid H.out.drew
        have HY := Lib.hid hy
        have HFY := Lib.hid hfy
        clear hy hcy hfy
        go_upto_region 5 with fail
        refine wp_region_held_drew (S := (fun _ => True)) (by kernel_rfl) ?_ (fun hHeld => ?_)
        · trivial
        first | (refine takeU (i := 0) (oi := { dst := some 32, op := Op.move (Operand.tmp 11), type := 22, pos := "law.go:57", after := #[], guard := none }) rfl (by kernel_rfl) (by kernel_rfl) (by kernel_rfl) (fun _ _ _ h => h) ?_ hHeld ?_; (focus rfl)) | (refine takeW (i := 0) (oi := { dst := some 32, op := Op.move (Operand.tmp 11), type := 22, pos := "law.go:57", after := #[], guard := none }) ?_ rfl (by kernel_rfl) (by kernel_rfl) (by kernel_rfl) (fun _ _ _ h => h) ?_ ?_ hHeld ?_; rotate_left; (focus rfl); (focus (intro wq hSq; obtain sq0 := hSq; (first | (go_simp; done) | (go_simp; with_reducible rfl)))))
        try simp only [Act.put, List.setIfInBounds_toArray, List.set_cons_zero, List.set_cons_succ]
        first | (refine takeU (i := 1) (oi := { dst := some 33, op := Op.move (Operand.tmp 12), type := 3, pos := "law.go:57", after := #[], guard := none }) rfl (by kernel_rfl) (by kernel_rfl) (by kernel_rfl) (fun _ _ _ h => h) ?_ hHeld ?_; (focus rfl)) | (refine takeW (i := 1) (oi := { dst := some 33, op := Op.move (Operand.tmp 12), type := 3, pos := "law.go:57", after := #[], guard := none }) ?_ rfl (by kernel_rfl) (by kernel_rfl) (by kernel_rfl) (fun _ _ _ h => h) ?_ ?_ hHeld ?_; rotate_left; (focus rfl); (focus (intro wq hSq; obtain sq0 := hSq; (first | (go_simp; done) | (go_simp; with_reducible rfl)))))
        try simp only [Act.put, List.setIfInBounds_toArray, List.set_cons_zero, List.set_cons_succ]
        first | (refine takeU (i := 2) (oi := { dst := some 34, op := Op.slice 22 (Operand.tmp 32) none (some (Operand.tmp 33)) none, type := 22, pos := "law.go:57", after := #[{ on := 0, ground := Ground.data }, { on := 1, ground := Ground.data }], guard := none }) rfl (by kernel_rfl) (by kernel_rfl) (by kernel_rfl) (fun _ _ _ h => h) ?_ hHeld ?_; (focus rfl)) | (refine takeW (i := 2) (oi := { dst := some 34, op := Op.slice 22 (Operand.tmp 32) none (some (Operand.tmp 33)) none, type := 22, pos := "law.go:57", after := #[{ on := 0, ground := Ground.data }, { on := 1, ground := Ground.data }], guard := none }) ?_ rfl (by kernel_rfl) (by kernel_rfl) (by kernel_rfl) (fun _ _ _ h => h) ?_ ?_ hHeld ?_; rotate_left; (focus rfl); (focus (intro wq hSq; obtain sq0 := hSq; (first | (go_simp; done) | (go_simp; with_reducible rfl)))))
        try simp only [Act.put, List.setIfInBounds_toArray, List.set_cons_zero, List.set_cons_succ]
        first | (refine takeU (i := 3) (oi := { dst := some 35, op := Op.move (Operand.tmp 10), type := 22, pos := "law.go:57", after := #[], guard := none }) rfl (by kernel_rfl) (by kernel_rfl) (by kernel_rfl) (fun _ _ _ h => h) ?_ hHeld ?_; (focus rfl)) | (refine takeW (i := 3) (oi := { dst := some 35, op := Op.move (Operand.tmp 10), type := 22, pos := "law.go:57", after := #[], guard := none }) ?_ rfl (by kernel_rfl) (by kernel_rfl) (by kernel_rfl) (fun _ _ _ h => h) ?_ ?_ hHeld ?_; rotate_left; (focus rfl); (focus (intro wq hSq; obtain sq0 := hSq; (first | (go_simp; done) | (go_simp; with_reducible rfl)))))
        try simp only [Act.put, List.setIfInBounds_toArray, List.set_cons_zero, List.set_cons_succ]
        first | (refine takeU (i := 4) (oi := { dst := some 36, op := Op.move (Operand.tmp 12), type := 3, pos := "law.go:57", after := #[], guard := none }) rfl (by kernel_rfl) (by kernel_rfl) (by kernel_rfl) (fun _ _ _ h => h) ?_ hHeld ?_; (focus rfl)) | (refine takeW (i := 4) (oi := { dst := some 36, op := Op.move (Operand.tmp 12), type := 3, pos := "law.go:57", after := #[], guard := none }) ?_ rfl (by kernel_rfl) (by kernel_rfl) (by kernel_rfl) (fun _ _ _ h => h) ?_ ?_ hHeld ?_; rotate_left; (focus rfl); (focus (intro wq hSq; obtain sq0 := hSq; (first | (go_simp; done) | (go_simp; with_reducible rfl)))))
        try simp only [Act.put, List.setIfInBounds_toArray, List.set_cons_zero, List.set_cons_succ]
        first | (refine takeU (i := 5) (oi := { dst := some 37, op := Op.slice 22 (Operand.tmp 35) none (some (Operand.tmp 36)) none, type := 22, pos := "law.go:57", after := #[{ on := 3, ground := Ground.data }, { on := 4, ground := Ground.data }], guard := none }) rfl (by kernel_rfl) (by kernel_rfl) (by kernel_rfl) (fun _ _ _ h => h) ?_ hHeld ?_; (focus rfl)) | (refine takeW (i := 5) (oi := { dst := some 37, op := Op.slice 22 (Operand.tmp 35) none (some (Operand.tmp 36)) none, type := 22, pos := "law.go:57", after := #[{ on := 3, ground := Ground.data }, { on := 4, ground := Ground.data }], guard := none }) ?_ rfl (by kernel_rfl) (by kernel_rfl) (by kernel_rfl) (fun _ _ _ h => h) ?_ ?_ hHeld ?_; rotate_left; (focus rfl); (focus (intro wq hSq; obtain sq0 := hSq; (first | (go_simp; done) | (go_simp; with_reducible rfl)))))
        try simp only [Act.put, List.setIfInBounds_toArray, List.set_cons_zero, List.set_cons_succ]
        refine wpAnyH_ready (rs := [6]) (by kernel_rfl) (by simp) ?_
        refine AllReadyH.cons (o := { dst := some 38, op := Op.call { callee := Callee.builtin Builtin.copy, args := #[Operand.tmp 34, Operand.tmp 37], argTypes := #[22, 22] }, type := 3, pos := "law.go:57", after := #[{ on := 2, ground := Ground.data }, { on := 5, ground := Ground.data }], guard := none }) rfl (fun K hK => ?_) AllReadyH.nil
        (refine step_copy_sep rfl (.tmp 34) (.tmp 37) 22 22 rfl 3 Try.underlying22 Try.sizeInt H0.out 0 rfl kk co rfl (some sa) cs _ rfl ((H0.out.ownInts 1 rfl).2.2.take hks) hko ?_; intro w6 h6; have H6 := Lib.hid h6; clear h6)
        refine hK.out _ _ ?_ (fun hHeld2 => ?_)
        · first | assumption | (trivial)
        clear hK K hHeld
        have hHeld := hHeld2; clear hHeld2
        try simp only [Act.put, List.setIfInBounds_toArray, List.set_cons_zero, List.set_cons_succ]
        refine wpAnyH_done (by kernel_rfl) ?_ _
        have hcy := ((H6.out.ownInts 1 rfl).2.2).get HY.out
        obtain ⟨z, hz⟩ := getElem_of (l := s.take kk ++ o.drop kk) (k := kk) (by have := (H6.out.own 0 rfl).len; omega)
        have hcz := (H6.out.own 0 rfl).cell hz
        have hfz := (H6.out.own 0 rfl).frozen kk
        have H7 := Lib.hid (H6.out.store 0 kk HFY.out rfl)
        clear hz H ht1 ht2 H0
        go_wp2_with fail
        go_meet
        exact ⟨_, H7.out⟩
    case rest =>
      obtain ⟨O, hS⟩ := hcut
      clear H
      have H := Lib.hid hS
      clear hS
      have e3 := and3 nn
      go_upto_region 7 with fail
      have H0 := Lib.hid H.out.drew
      have z0 := H0.out.oldCell (p := ⟨w.heap.size, 0, none⟩) hl0 B0.out
      have z1 := H0.out.oldCell (p := ⟨w.heap.size, 1, none⟩) hl0 B1.out
      have z2 := H0.out.oldCell (p := ⟨w.heap.size + 1, 0, none⟩) hl1 B2.out
      have z3 := H0.out.oldCell (p := ⟨w.heap.size + 1, 1, none⟩) hl1 B3.out
      refine wp_region_held_drew (S := (fun w' => w'.cell? ⟨w.heap.size, 0, none⟩ = some (.slice A3 n3 c3) ∧ w'.cell? ⟨w.heap.size, 1, none⟩ = some (.slice A4 n4 c4) ∧ w'.cell? ⟨w.heap.size + 1, 0, none⟩ = some (.slice A5 n5 c5) ∧ w'.cell? ⟨w.heap.size + 1, 1, none⟩ = some (.slice A6 n6 c6))) (by kernel_rfl) ?_ (fun hHeld => ?_)
      · exact ⟨z0, z1, z2, z3⟩
      first | (refine takeU (i := 0) (oi := { dst := some 48, op := Op.move (Operand.tmp 9), type := 31, pos := "law.go:60", after := #[], guard := none }) rfl (by kernel_rfl) (by kernel_rfl) (by kernel_rfl) (fun _ _ _ h => h) ?_ hHeld ?_; (focus rfl)) | (refine takeW (i := 0) (oi := { dst := some 48, op := Op.move (Operand.tmp 9), type := 31, pos := "law.go:60", after := #[], guard := none }) ?_ rfl (by kernel_rfl) (by kernel_rfl) (by kernel_rfl) (fun _ _ _ h => h) ?_ ?_ hHeld ?_; rotate_left; (focus rfl); (focus (intro wq hSq; obtain ⟨s0, s1, s2, s3⟩ := hSq; (first | (go_simp; done) | (go_simp; with_reducible rfl)))))
      try simp only [Act.put, List.setIfInBounds_toArray, List.set_cons_zero, List.set_cons_succ]
      first | (refine takeU (i := 1) (oi := { dst := some 49, op := Op.move (Operand.tmp 10), type := 22, pos := "law.go:60", after := #[], guard := none }) rfl (by kernel_rfl) (by kernel_rfl) (by kernel_rfl) (fun _ _ _ h => h) ?_ hHeld ?_; (focus rfl)) | (refine takeW (i := 1) (oi := { dst := some 49, op := Op.move (Operand.tmp 10), type := 22, pos := "law.go:60", after := #[], guard := none }) ?_ rfl (by kernel_rfl) (by kernel_rfl) (by kernel_rfl) (fun _ _ _ h => h) ?_ ?_ hHeld ?_; rotate_left; (focus rfl); (focus (intro wq hSq; obtain ⟨s0, s1, s2, s3⟩ := hSq; (first | (go_simp; done) | (go_simp; with_reducible rfl)))))
      try simp only [Act.put, List.setIfInBounds_toArray, List.set_cons_zero, List.set_cons_succ]
      first | (refine takeU (i := 3) (oi := { dst := some 51, op := Op.move (Operand.tmp 9), type := 31, pos := "law.go:60", after := #[], guard := none }) rfl (by kernel_rfl) (by kernel_rfl) (by kernel_rfl) (fun _ _ _ h => h) ?_ hHeld ?_; (focus rfl)) | (refine takeW (i := 3) (oi := { dst := some 51, op := Op.move (Operand.tmp 9), type := 31, pos := "law.go:60", after := #[], guard := none }) ?_ rfl (by kernel_rfl) (by kernel_rfl) (by kernel_rfl) (fun _ _ _ h => h) ?_ ?_ hHeld ?_; rotate_left; (focus rfl); (focus (intro wq hSq; obtain ⟨s0, s1, s2, s3⟩ := hSq; (first | (go_simp; done) | (go_simp; with_reducible rfl)))))
      try simp only [Act.put, List.setIfInBounds_toArray, List.set_cons_zero, List.set_cons_succ]
      first | (refine takeU (i := 4) (oi := { dst := some 52, op := Op.move (Operand.tmp 11), type := 22, pos := "law.go:60", after := #[], guard := none }) rfl (by kernel_rfl) (by kernel_rfl) (by kernel_rfl) (fun _ _ _ h => h) ?_ hHeld ?_; (focus rfl)) | (refine takeW (i := 4) (oi := { dst := some 52, op := Op.move (Operand.tmp 11), type := 22, pos := "law.go:60", after := #[], guard := none }) ?_ rfl (by kernel_rfl) (by kernel_rfl) (by kernel_rfl) (fun _ _ _ h => h) ?_ ?_ hHeld ?_; rotate_left; (focus rfl); (focus (intro wq hSq; obtain ⟨s0, s1, s2, s3⟩ := hSq; (first | (go_simp; done) | (go_simp; with_reducible rfl)))))
      try simp only [Act.put, List.setIfInBounds_toArray, List.set_cons_zero, List.set_cons_succ]
      first | (refine takeU (i := 6) (oi := { dst := some 54, op := Op.move (Operand.tmp 12), type := 3, pos := "law.go:60", after := #[], guard := none }) rfl (by kernel_rfl) (by kernel_rfl) (by kernel_rfl) (fun _ _ _ h => h) ?_ hHeld ?_; (focus rfl)) | (refine takeW (i := 6) (oi := { dst := some 54, op := Op.move (Operand.tmp 12), type := 3, pos := "law.go:60", after := #[], guard := none }) ?_ rfl (by kernel_rfl) (by kernel_rfl) (by kernel_rfl) (fun _ _ _ h => h) ?_ ?_ hHeld ?_; rotate_left; (focus rfl); (focus (intro wq hSq; obtain ⟨s0, s1, s2, s3⟩ := hSq; (first | (go_simp; done) | (go_simp; with_reducible rfl)))))
      try simp only [Act.put, List.setIfInBounds_toArray, List.set_cons_zero, List.set_cons_succ]
      refine wpAnyH_ready (rs := [2]) (by kernel_rfl) (by simp) ?_
      refine AllReadyH.cons (o := { dst := some 50, op := Op.call { callee := Callee.value (Operand.func 12), args := #[Operand.tmp 48, Operand.tmp 49], argTypes := #[31, 22] }, type := 26, pos := "law.go:60", after := #[{ on := 0, ground := Ground.data }, { on := 1, ground := Ground.data }], guard := none }) rfl (fun K hK => ?_) AllReadyH.nil
      first | (refine effU ?_ ?_; (focus rfl)) | (go_simp; (go_at_call 12; refine (tapeTensor_any (c := cs) (H0.out.tape 2 rfl) ((H0.out.ownInts 1 rfl).2.2) (by omega)).mono ?_; rintro f1 x1 ⟨⟨v, dta, rfl, hOT, hdl⟩, hR⟩; obtain ⟨vs, vd, nta, mta, rfl, ho1, ho2⟩ := hOT; obtain ⟨Sta, kta, rfl, hkta, _, _⟩ := ho1.form; obtain ⟨Dta, jta, rfl, hjta, _, _⟩ := ho2.form; have H1 := Lib.hid (H0.out.readOwn2 2 rfl hR ho1 ho2 (Ne.symm ty_ne.1)); have y1_0 := H1.out.oldCell (p := ⟨w.heap.size, 0, none⟩) hl0 B0.out; have y1_1 := H1.out.oldCell (p := ⟨w.heap.size, 1, none⟩) hl0 B1.out; have y1_2 := H1.out.oldCell (p := ⟨w.heap.size + 1, 0, none⟩) hl1 B2.out; have y1_3 := H1.out.oldCell (p := ⟨w.heap.size + 1, 1, none⟩) hl1 B3.out; clear hR ho1 ho2 hdl); go_wp2_with fail)
      refine hK.out _ _ ?_ (fun hHeld2 => ?_)
      · first | assumption | (exact ⟨y1_0, y1_1, y1_2, y1_3⟩)
      clear hK K hHeld
      have hHeld := hHeld2; clear hHeld2
      try simp only [Act.put, List.setIfInBounds_toArray, List.set_cons_zero, List.set_cons_succ]
      refine wpAnyH_ready (rs := [5]) (by kernel_rfl) (by simp) ?_
      refine AllReadyH.cons (o := { dst := some 53, op := Op.call { callee := Callee.value (Operand.func 12), args := #[Operand.tmp 51, Operand.tmp 52], argTypes := #[31, 22] }, type := 26, pos := "law.go:60", after := #[{ on := 3, ground := Ground.data }, { on := 4, ground := Ground.data }, { on := 2, ground := Ground.chain }], guard := none }) rfl (fun K hK => ?_) AllReadyH.nil
      first | (refine effU ?_ ?_; (focus rfl)) | (go_simp; (go_at_call 12; refine (tapeTensor_any (c := co) (H1.out.tape 4 rfl) ((H1.out.ownInts 2 rfl).2.2) (by omega)).mono ?_; rintro f2 x2 ⟨⟨v, dtb, rfl, hOT, hdl⟩, hR⟩; obtain ⟨vs, vd, ntb, mtb, rfl, ho1, ho2⟩ := hOT; obtain ⟨Stb, ktb, rfl, hktb, _, _⟩ := ho1.form; obtain ⟨Dtb, jtb, rfl, hjtb, _, _⟩ := ho2.form; have H2 := Lib.hid (H1.out.readOwn2 4 rfl hR ho1 ho2 (Ne.symm ty_ne.1)); have y2_0 := H2.out.oldCell (p := ⟨w.heap.size, 0, none⟩) hl0 B0.out; have y2_1 := H2.out.oldCell (p := ⟨w.heap.size, 1, none⟩) hl0 B1.out; have y2_2 := H2.out.oldCell (p := ⟨w.heap.size + 1, 0, none⟩) hl1 B2.out; have y2_3 := H2.out.oldCell (p := ⟨w.heap.size + 1, 1, none⟩) hl1 B3.out; clear hR ho1 ho2 hdl); go_wp2_with fail)
      refine hK.out _ _ ?_ (fun hHeld2 => ?_)
      · first | assumption | (exact ⟨y2_0, y2_1, y2_2, y2_3⟩)
      clear hK K hHeld
      have hHeld := hHeld2; clear hHeld2
      try simp only [Act.put, List.setIfInBounds_toArray, List.set_cons_zero, List.set_cons_succ]
      refine wpAnyH_ready (rs := [7]) (by kernel_rfl) (by simp) ?_
      refine AllReadyH.cons (o := { dst := some 55, op := Op.call { callee := Callee.value (Operand.func 8), args := #[Operand.tmp 50, Operand.tmp 53, Operand.tmp 54], argTypes := #[26, 26, 3] }, type := 4, pos := "law.go:60", after := #[{ on := 2, ground := Ground.data }, { on := 5, ground := Ground.data }, { on := 6, ground := Ground.data }, { on := 5, ground := Ground.chain }], guard := none }) rfl (fun K hK => ?_) AllReadyH.nil
      first | (refine effU ?_ ?_; (focus rfl)) | (go_simp; (go_at_call 8; refine (l7same_any ((kk : Int)) (ten_mk (H2.out.ownInts 2 rfl).2.2 (H2.out.ownInts 2 rfl).2.1 (H2.out.ownInts 3 rfl).2.2 (H2.out.ownInts 3 rfl).2.1) (ten_mk (H2.out.ownInts 0 rfl).2.2 (H2.out.ownInts 0 rfl).2.1 (H2.out.ownInts 1 rfl).2.2 (H2.out.ownInts 1 rfl).2.1)).mono ?_; rintro f3 x3 ⟨rfl, hb⟩; have H3 := Lib.hid (H2.out.below hb); have y3_0 := H3.out.oldCell (p := ⟨w.heap.size, 0, none⟩) hl0 B0.out; have y3_1 := H3.out.oldCell (p := ⟨w.heap.size, 1, none⟩) hl0 B1.out; have y3_2 := H3.out.oldCell (p := ⟨w.heap.size + 1, 0, none⟩) hl1 B2.out; have y3_3 := H3.out.oldCell (p := ⟨w.heap.size + 1, 1, none⟩) hl1 B3.out; clear hb); go_wp2_with fail)
      refine hK.out _ _ ?_ (fun hHeld2 => ?_)
      · first | assumption | (exact ⟨y3_0, y3_1, y3_2, y3_3⟩)
      clear hK K hHeld
      have hHeld := hHeld2; clear hHeld2
      try simp only [Act.put, List.setIfInBounds_toArray, List.set_cons_zero, List.set_cons_succ]
      first | (refine takeU (i := 8) (oi := { dst := some 56, op := Op.move (Operand.tmp 55), type := 4, pos := "law.go:60", after := #[{ on := 7, ground := Ground.data }, { on := 7, ground := Ground.chain }], guard := none }) rfl (by kernel_rfl) (by kernel_rfl) (by kernel_rfl) (fun _ _ _ h => h) ?_ hHeld ?_; (focus rfl)) | (refine takeW (i := 8) (oi := { dst := some 56, op := Op.move (Operand.tmp 55), type := 4, pos := "law.go:60", after := #[{ on := 7, ground := Ground.data }, { on := 7, ground := Ground.chain }], guard := none }) ?_ rfl (by kernel_rfl) (by kernel_rfl) (by kernel_rfl) (fun _ _ _ h => h) ?_ ?_ hHeld ?_; rotate_left; (focus rfl); (focus (intro wq hSq; obtain ⟨s0, s1, s2, s3⟩ := hSq; (first | (go_simp; done) | (go_simp; with_reducible rfl)))))
      try simp only [Act.put, List.setIfInBounds_toArray, List.set_cons_zero, List.set_cons_succ]
      first | (refine takeU (i := 9) (oi := { dst := some 57, op := Op.move (Operand.tmp 9), type := 31, pos := "law.go:60", after := #[{ on := 8, ground := Ground.guard }], guard := some (8, true) }) rfl (by kernel_rfl) (by kernel_rfl) (by kernel_rfl) (fun _ _ _ h => h) ?_ hHeld ?_; (focus rfl)) | (refine takeW (i := 9) (oi := { dst := some 57, op := Op.move (Operand.tmp 9), type := 31, pos := "law.go:60", after := #[{ on := 8, ground := Ground.guard }], guard := some (8, true) }) ?_ rfl (by kernel_rfl) (by kernel_rfl) (by kernel_rfl) (fun _ _ _ h => h) ?_ ?_ hHeld ?_; rotate_left; (focus rfl); (focus (intro wq hSq; obtain ⟨s0, s1, s2, s3⟩ := hSq; (first | (go_simp; done) | (go_simp; with_reducible rfl)))))
      try simp only [Act.put, List.setIfInBounds_toArray, List.set_cons_zero, List.set_cons_succ]
      first | (refine takeU (i := 10) (oi := { dst := some 58, op := Op.move (Operand.tmp 10), type := 22, pos := "law.go:60", after := #[{ on := 8, ground := Ground.guard }], guard := some (8, true) }) rfl (by kernel_rfl) (by kernel_rfl) (by kernel_rfl) (fun _ _ _ h => h) ?_ hHeld ?_; (focus rfl)) | (refine takeW (i := 10) (oi := { dst := some 58, op := Op.move (Operand.tmp 10), type := 22, pos := "law.go:60", after := #[{ on := 8, ground := Ground.guard }], guard := some (8, true) }) ?_ rfl (by kernel_rfl) (by kernel_rfl) (by kernel_rfl) (fun _ _ _ h => h) ?_ ?_ hHeld ?_; rotate_left; (focus rfl); (focus (intro wq hSq; obtain ⟨s0, s1, s2, s3⟩ := hSq; (first | (go_simp; done) | (go_simp; with_reducible rfl)))))
      try simp only [Act.put, List.setIfInBounds_toArray, List.set_cons_zero, List.set_cons_succ]
      first | (refine takeU (i := 12) (oi := { dst := some 60, op := Op.move (Operand.tmp 9), type := 31, pos := "law.go:60", after := #[{ on := 8, ground := Ground.guard }], guard := some (8, true) }) rfl (by kernel_rfl) (by kernel_rfl) (by kernel_rfl) (fun _ _ _ h => h) ?_ hHeld ?_; (focus rfl)) | (refine takeW (i := 12) (oi := { dst := some 60, op := Op.move (Operand.tmp 9), type := 31, pos := "law.go:60", after := #[{ on := 8, ground := Ground.guard }], guard := some (8, true) }) ?_ rfl (by kernel_rfl) (by kernel_rfl) (by kernel_rfl) (fun _ _ _ h => h) ?_ ?_ hHeld ?_; rotate_left; (focus rfl); (focus (intro wq hSq; obtain ⟨s0, s1, s2, s3⟩ := hSq; (first | (go_simp; done) | (go_simp; with_reducible rfl)))))
      try simp only [Act.put, List.setIfInBounds_toArray, List.set_cons_zero, List.set_cons_succ]
      first | (refine takeU (i := 13) (oi := { dst := some 61, op := Op.move (Operand.tmp 11), type := 22, pos := "law.go:60", after := #[{ on := 8, ground := Ground.guard }], guard := some (8, true) }) rfl (by kernel_rfl) (by kernel_rfl) (by kernel_rfl) (fun _ _ _ h => h) ?_ hHeld ?_; (focus rfl)) | (refine takeW (i := 13) (oi := { dst := some 61, op := Op.move (Operand.tmp 11), type := 22, pos := "law.go:60", after := #[{ on := 8, ground := Ground.guard }], guard := some (8, true) }) ?_ rfl (by kernel_rfl) (by kernel_rfl) (by kernel_rfl) (fun _ _ _ h => h) ?_ ?_ hHeld ?_; rotate_left; (focus rfl); (focus (intro wq hSq; obtain ⟨s0, s1, s2, s3⟩ := hSq; (first | (go_simp; done) | (go_simp; with_reducible rfl)))))
      try simp only [Act.put, List.setIfInBounds_toArray, List.set_cons_zero, List.set_cons_succ]
      first | (refine takeU (i := 15) (oi := { dst := some 63, op := Op.move (Operand.tmp 1), type := 3, pos := "law.go:60", after := #[{ on := 8, ground := Ground.guard }], guard := some (8, true) }) rfl (by kernel_rfl) (by kernel_rfl) (by kernel_rfl) (fun _ _ _ h => h) ?_ hHeld ?_; (focus rfl)) | (refine takeW (i := 15) (oi := { dst := some 63, op := Op.move (Operand.tmp 1), type := 3, pos := "law.go:60", after := #[{ on := 8, ground := Ground.guard }], guard := some (8, true) }) ?_ rfl (by kernel_rfl) (by kernel_rfl) (by kernel_rfl) (fun _ _ _ h => h) ?_ ?_ hHeld ?_; rotate_left; (focus rfl); (focus (intro wq hSq; obtain ⟨s0, s1, s2, s3⟩ := hSq; (first | (go_simp; done) | (go_simp; with_reducible rfl)))))
      try simp only [Act.put, List.setIfInBounds_toArray, List.set_cons_zero, List.set_cons_succ]
      first | (refine takeU (i := 16) (oi := { dst := some 64, op := Op.binOp BinOp.and 3 (Operand.tmp 63) (Operand.const (Value.int IntKind.i64 3)) 3, type := 3, pos := "law.go:60", after := #[{ on := 15, ground := Ground.data }, { on := 8, ground := Ground.guard }], guard := some (8, true) }) rfl (by kernel_rfl) (by kernel_rfl) (by kernel_rfl) (fun _ _ _ h => h) ?_ hHeld ?_; (focus rfl)) | (refine takeW (i := 16) (oi := { dst := some 64, op := Op.binOp BinOp.and 3 (Operand.tmp 63) (Operand.const (Value.int IntKind.i64 3)) 3, type := 3, pos := "law.go:60", after := #[{ on := 15, ground := Ground.data }, { on := 8, ground := Ground.guard }], guard := some (8, true) }) ?_ rfl (by kernel_rfl) (by kernel_rfl) (by kernel_rfl) (fun _ _ _ h => h) ?_ ?_ hHeld ?_; rotate_left; (focus rfl); (focus (intro wq hSq; obtain ⟨s0, s1, s2, s3⟩ := hSq; (first | (go_simp; done) | (go_simp; with_reducible rfl)))))
      try simp only [Act.put, List.setIfInBounds_toArray, List.set_cons_zero, List.set_cons_succ]
      refine wpAnyH_ready (rs := [11]) (by kernel_rfl) (by simp) ?_
      refine AllReadyH.cons (o := { dst := some 59, op := Op.call { callee := Callee.value (Operand.func 12), args := #[Operand.tmp 57, Operand.tmp 58], argTypes := #[31, 22] }, type := 26, pos := "law.go:60", after := #[{ on := 9, ground := Ground.data }, { on := 10, ground := Ground.data }, { on := 8, ground := Ground.chain }, { on := 8, ground := Ground.guard }], guard := some (8, true) }) rfl (fun K hK => ?_) AllReadyH.nil
      first | (refine effU ?_ ?_; (focus rfl)) | (go_simp; (go_at_call 12; refine (tapeTensor_any (c := cs) (H3.out.tape 6 rfl) ((H3.out.ownInts 5 rfl).2.2) (by omega)).mono ?_; rintro f4 x4 ⟨⟨v, dtc, rfl, hOT, hdl⟩, hR⟩; obtain ⟨vs, vd, ntc, mtc, rfl, ho1, ho2⟩ := hOT; obtain ⟨Stc, ktc, rfl, hktc, _, _⟩ := ho1.form; obtain ⟨Dtc, jtc, rfl, hjtc, _, _⟩ := ho2.form; have H4 := Lib.hid (H3.out.readOwn2 6 rfl hR ho1 ho2 (Ne.symm ty_ne.1)); have y4_0 := H4.out.oldCell (p := ⟨w.heap.size, 0, none⟩) hl0 B0.out; have y4_1 := H4.out.oldCell (p := ⟨w.heap.size, 1, none⟩) hl0 B1.out; have y4_2 := H4.out.oldCell (p := ⟨w.heap.size + 1, 0, none⟩) hl1 B2.out; have y4_3 := H4.out.oldCell (p := ⟨w.heap.size + 1, 1, none⟩) hl1 B3.out; clear hR ho1 ho2 hdl); go_wp2_with fail)
      refine hK.out _ _ ?_ (fun hHeld2 => ?_)
      · first | assumption | (exact ⟨y4_0, y4_1, y4_2, y4_3⟩)
      clear hK K hHeld
      have hHeld := hHeld2; clear hHeld2
      try simp only [Act.put, List.setIfInBounds_toArray, List.set_cons_zero, List.set_cons_succ]
      refine wpAnyH_ready (rs := [14]) (by kernel_rfl) (by simp) ?_
      refine AllReadyH.cons (o := { dst := some 62, op := Op.call { callee := Callee.value (Operand.func 12), args := #[Operand.tmp 60, Operand.tmp 61], argTypes := #[31, 22] }, type := 26, pos := "law.go:60", after := #[{ on := 12, ground := Ground.data }, { on := 13, ground := Ground.data }, { on := 11, ground := Ground.chain }, { on := 8, ground := Ground.guard }], guard := some (8, true) }) rfl (fun K hK => ?_) AllReadyH.nil
      first | (refine effU ?_ ?_; (focus rfl)) | (go_simp; (go_at_call 12; refine (tapeTensor_any (c := co) (H4.out.tape 8 rfl) ((H4.out.ownInts 6 rfl).2.2) (by omega)).mono ?_; rintro f5 x5 ⟨⟨v, dtd, rfl, hOT, hdl⟩, hR⟩; obtain ⟨vs, vd, ntd, mtd, rfl, ho1, ho2⟩ := hOT; obtain ⟨Std, ktd, rfl, hktd, _, _⟩ := ho1.form; obtain ⟨Dtd, jtd, rfl, hjtd, _, _⟩ := ho2.form; have H5 := Lib.hid (H4.out.readOwn2 8 rfl hR ho1 ho2 (Ne.symm ty_ne.1)); have y5_0 := H5.out.oldCell (p := ⟨w.heap.size, 0, none⟩) hl0 B0.out; have y5_1 := H5.out.oldCell (p := ⟨w.heap.size, 1, none⟩) hl0 B1.out; have y5_2 := H5.out.oldCell (p := ⟨w.heap.size + 1, 0, none⟩) hl1 B2.out; have y5_3 := H5.out.oldCell (p := ⟨w.heap.size + 1, 1, none⟩) hl1 B3.out; clear hR ho1 ho2 hdl); go_wp2_with fail)
      refine hK.out _ _ ?_ (fun hHeld2 => ?_)
      · first | assumption | (exact ⟨y5_0, y5_1, y5_2, y5_3⟩)
      clear hK K hHeld
      have hHeld := hHeld2; clear hHeld2
      try simp only [Act.put, List.setIfInBounds_toArray, List.set_cons_zero, List.set_cons_succ]
      refine wpAnyH_ready (rs := [17]) (by kernel_rfl) (by simp) ?_
      refine AllReadyH.cons (o := { dst := some 65, op := Op.call { callee := Callee.value (Operand.func 8), args := #[Operand.tmp 59, Operand.tmp 62, Operand.tmp 64], argTypes := #[26, 26, 3] }, type := 4, pos := "law.go:60", after := #[{ on := 11, ground := Ground.data }, { on := 14, ground := Ground.data }, { on := 16, ground := Ground.data }, { on := 14, ground := Ground.chain }, { on := 8, ground := Ground.guard }], guard := some (8, true) }) rfl (fun K hK => ?_) AllReadyH.nil
      first | (refine effU ?_ ?_; (focus rfl)) | (go_simp; (go_at_call 8; refine (l7same_any (nn % 4) (ten_mk (H5.out.ownInts 2 rfl).2.2 (H5.out.ownInts 2 rfl).2.1 (H5.out.ownInts 3 rfl).2.2 (H5.out.ownInts 3 rfl).2.1) (ten_mk (H5.out.ownInts 0 rfl).2.2 (H5.out.ownInts 0 rfl).2.1 (H5.out.ownInts 1 rfl).2.2 (H5.out.ownInts 1 rfl).2.1)).mono ?_; rintro f6 x6 ⟨rfl, hb⟩; have H6 := Lib.hid (H5.out.below hb); have y6_0 := H6.out.oldCell (p := ⟨w.heap.size, 0, none⟩) hl0 B0.out; have y6_1 := H6.out.oldCell (p := ⟨w.heap.size, 1, none⟩) hl0 B1.out; have y6_2 := H6.out.oldCell (p := ⟨w.heap.size + 1, 0, none⟩) hl1 B2.out; have y6_3 := H6.out.oldCell (p := ⟨w.heap.size + 1, 1, none⟩) hl1 B3.out; clear hb); go_wp2_with fail)
      refine hK.out _ _ ?_ (fun hHeld2 => ?_)
      · first | assumption | (exact ⟨y6_0, y6_1, y6_2, y6_3⟩)
      clear hK K hHeld
      have hHeld := hHeld2; clear hHeld2
      try simp only [Act.put, List.setIfInBounds_toArray, List.set_cons_zero, List.set_cons_succ]
      first | (refine takeU (i := 18) (oi := { dst := some 66, op := Op.pick (Operand.tmp 56) (Operand.tmp 65) (Operand.const (Value.bool false)), type := 4, pos := "law.go:60", after := #[{ on := 8, ground := Ground.data }, { on := 17, ground := Ground.data }], guard := none }) rfl (by kernel_rfl) (by kernel_rfl) (by kernel_rfl) (fun _ _ _ h => h) ?_ hHeld ?_; (focus rfl)) | (refine takeW (i := 18) (oi := { dst := some 66, op := Op.pick (Operand.tmp 56) (Operand.tmp 65) (Operand.const (Value.bool false)), type := 4, pos := "law.go:60", after := #[{ on := 8, ground := Ground.data }, { on := 17, ground := Ground.data }], guard := none }) ?_ rfl (by kernel_rfl) (by kernel_rfl) (by kernel_rfl) (fun _ _ _ h => h) ?_ ?_ hHeld ?_; rotate_left; (focus rfl); (focus (intro wq hSq; obtain ⟨s0, s1, s2, s3⟩ := hSq; (first | (go_simp; done) | (go_simp; with_reducible rfl)))))
      try simp only [Act.put, List.setIfInBounds_toArray, List.set_cons_zero, List.set_cons_succ]
      first | (refine takeU (i := 19) (oi := { dst := some 67, op := Op.move (Operand.tmp 66), type := 4, pos := "law.go:60", after := #[{ on := 18, ground := Ground.data }, { on := 17, ground := Ground.chain }], guard := none }) rfl (by kernel_rfl) (by kernel_rfl) (by kernel_rfl) (fun _ _ _ h => h) ?_ hHeld ?_; (focus rfl)) | (refine takeW (i := 19) (oi := { dst := some 67, op := Op.move (Operand.tmp 66), type := 4, pos := "law.go:60", after := #[{ on := 18, ground := Ground.data }, { on := 17, ground := Ground.chain }], guard := none }) ?_ rfl (by kernel_rfl) (by kernel_rfl) (by kernel_rfl) (fun _ _ _ h => h) ?_ ?_ hHeld ?_; rotate_left; (focus rfl); (focus (intro wq hSq; obtain ⟨s0, s1, s2, s3⟩ := hSq; (first | (go_simp; done) | (go_simp; with_reducible rfl)))))
      try simp only [Act.put, List.setIfInBounds_toArray, List.set_cons_zero, List.set_cons_succ]
      first | (refine takeU (i := 20) (oi := { dst := some 68, op := Op.load 26 (Operand.tmp 6), type := 26, pos := "law.go:60", after := #[{ on := 19, ground := Ground.guard }], guard := some (19, true) }) rfl (by kernel_rfl) (by kernel_rfl) (by kernel_rfl) (fun _ _ _ h => h) ?_ hHeld ?_; (focus rfl)) | (refine takeW (i := 20) (oi := { dst := some 68, op := Op.load 26 (Operand.tmp 6), type := 26, pos := "law.go:60", after := #[{ on := 19, ground := Ground.guard }], guard := some (19, true) }) ?_ rfl (by kernel_rfl) (by kernel_rfl) (by kernel_rfl) (fun _ _ _ h => h) ?_ ?_ hHeld ?_; rotate_left; (focus rfl); (focus (intro wq hSq; obtain ⟨s0, s1, s2, s3⟩ := hSq; (first | (go_simp; done) | (go_simp; with_reducible rfl)))))
      try simp only [Act.put, List.setIfInBounds_toArray, List.set_cons_zero, List.set_cons_succ]
      first | (refine takeU (i := 21) (oi := { dst := some 69, op := Op.load 26 (Operand.tmp 7), type := 26, pos := "law.go:60", after := #[{ on := 19, ground := Ground.guard }], guard := some (19, true) }) rfl (by kernel_rfl) (by kernel_rfl) (by kernel_rfl) (fun _ _ _ h => h) ?_ hHeld ?_; (focus rfl)) | (refine takeW (i := 21) (oi := { dst := some 69, op := Op.load 26 (Operand.tmp 7), type := 26, pos := "law.go:60", after := #[{ on := 19, ground := Ground.guard }], guard := some (19, true) }) ?_ rfl (by kernel_rfl) (by kernel_rfl) (by kernel_rfl) (fun _ _ _ h => h) ?_ ?_ hHeld ?_; rotate_left; (focus rfl); (focus (intro wq hSq; obtain ⟨s0, s1, s2, s3⟩ := hSq; (first | (go_simp; done) | (go_simp; with_reducible rfl)))))
      try simp only [Act.put, List.setIfInBounds_toArray, List.set_cons_zero, List.set_cons_succ]
      first | (refine takeU (i := 22) (oi := { dst := some 70, op := Op.move (Operand.tmp 1), type := 3, pos := "law.go:60", after := #[{ on := 19, ground := Ground.guard }], guard := some (19, true) }) rfl (by kernel_rfl) (by kernel_rfl) (by kernel_rfl) (fun _ _ _ h => h) ?_ hHeld ?_; (focus rfl)) | (refine takeW (i := 22) (oi := { dst := some 70, op := Op.move (Operand.tmp 1), type := 3, pos := "law.go:60", after := #[{ on := 19, ground := Ground.guard }], guard := some (19, true) }) ?_ rfl (by kernel_rfl) (by kernel_rfl) (by kernel_rfl) (fun _ _ _ h => h) ?_ ?_ hHeld ?_; rotate_left; (focus rfl); (focus (intro wq hSq; obtain ⟨s0, s1, s2, s3⟩ := hSq; (first | (go_simp; done) | (go_simp; with_reducible rfl)))))
      try simp only [Act.put, List.setIfInBounds_toArray, List.set_cons_zero, List.set_cons_succ]
      refine wpAnyH_ready (rs := [23]) (by kernel_rfl) (by simp) ?_
      refine AllReadyH.cons (o := { dst := some 71, op := Op.call { callee := Callee.value (Operand.func 8), args := #[Operand.tmp 68, Operand.tmp 69, Operand.tmp 70], argTypes := #[26, 26, 3] }, type := 4, pos := "law.go:60", after := #[{ on := 20, ground := Ground.data }, { on := 21, ground := Ground.data }, { on := 22, ground := Ground.data }, { on := 19, ground := Ground.chain }, { on := 19, ground := Ground.guard }], guard := some (19, true) }) rfl (fun K hK => ?_) AllReadyH.nil
      first | (refine effU ?_ ?_; (focus rfl)) | (go_simp; (go_at_call 8; refine (l7same_any (nn) (H6.out.oldTen (ten_mk H_h3.out k3 H_h4.out k4)) (H6.out.oldTen (ten_mk H_h5.out k5 H_h6.out k6))).mono ?_; rintro f7 x7 ⟨rfl, hb⟩; have H7 := Lib.hid (H6.out.below hb); have y7_0 := H7.out.oldCell (p := ⟨w.heap.size, 0, none⟩) hl0 B0.out; have y7_1 := H7.out.oldCell (p := ⟨w.heap.size, 1, none⟩) hl0 B1.out; have y7_2 := H7.out.oldCell (p := ⟨w.heap.size + 1, 0, none⟩) hl1 B2.out; have y7_3 := H7.out.oldCell (p := ⟨w.heap.size + 1, 1, none⟩) hl1 B3.out; clear hb); go_wp2_with fail)
      refine hK.out _ _ ?_ (fun hHeld2 => ?_)
      · first | assumption | (exact ⟨y7_0, y7_1, y7_2, y7_3⟩)
      clear hK K hHeld
      have hHeld := hHeld2; clear hHeld2
      try simp only [Act.put, List.setIfInBounds_toArray, List.set_cons_zero, List.set_cons_succ]
      first | (refine takeU (i := 24) (oi := { dst := some 72, op := Op.pick (Operand.tmp 67) (Operand.tmp 71) (Operand.const (Value.bool false)), type := 4, pos := "law.go:60", after := #[{ on := 19, ground := Ground.data }, { on := 23, ground := Ground.data }], guard := none }) rfl (by kernel_rfl) (by kernel_rfl) (by kernel_rfl) (fun _ _ _ h => h) ?_ hHeld ?_; (focus rfl)) | (refine takeW (i := 24) (oi := { dst := some 72, op := Op.pick (Operand.tmp 67) (Operand.tmp 71) (Operand.const (Value.bool false)), type := 4, pos := "law.go:60", after := #[{ on := 19, ground := Ground.data }, { on := 23, ground := Ground.data }], guard := none }) ?_ rfl (by kernel_rfl) (by kernel_rfl) (by kernel_rfl) (fun _ _ _ h => h) ?_ ?_ hHeld ?_; rotate_left; (focus rfl); (focus (intro wq hSq; obtain ⟨s0, s1, s2, s3⟩ := hSq; (first | (go_simp; done) | (go_simp; with_reducible rfl)))))
      try simp only [Act.put, List.setIfInBounds_toArray, List.set_cons_zero, List.set_cons_succ]
      first | (refine takeU (i := 25) (oi := { dst := some 73, op := Op.move (Operand.tmp 72), type := 4, pos := "law.go:60", after := #[{ on := 24, ground := Ground.data }, { on := 23, ground := Ground.chain }], guard := none }) rfl (by kernel_rfl) (by kernel_rfl) (by kernel_rfl) (fun _ _ _ h => h) ?_ hHeld ?_; (focus rfl)) | (refine takeW (i := 25) (oi := { dst := some 73, op := Op.move (Operand.tmp 72), type := 4, pos := "law.go:60", after := #[{ on := 24, ground := Ground.data }, { on := 23, ground := Ground.chain }], guard := none }) ?_ rfl (by kernel_rfl) (by kernel_rfl) (by kernel_rfl) (fun _ _ _ h => h) ?_ ?_ hHeld ?_; rotate_left; (focus rfl); (focus (intro wq hSq; obtain ⟨s0, s1, s2, s3⟩ := hSq; (first | (go_simp; done) | (go_simp; with_reducible rfl)))))
      try simp only [Act.put, List.setIfInBounds_toArray, List.set_cons_zero, List.set_cons_succ]
      first | (refine takeU (i := 26) (oi := { dst := some 74, op := Op.move (Operand.tmp 9), type := 31, pos := "law.go:60", after := #[{ on := 25, ground := Ground.guard }], guard := some (25, true) }) rfl (by kernel_rfl) (by kernel_rfl) (by kernel_rfl) (fun _ _ _ h => h) ?_ hHeld ?_; (focus rfl)) | (refine takeW (i := 26) (oi := { dst := some 74, op := Op.move (Operand.tmp 9), type := 31, pos := "law.go:60", after := #[{ on := 25, ground := Ground.guard }], guard := some (25, true) }) ?_ rfl (by kernel_rfl) (by kernel_rfl) (by kernel_rfl) (fun _ _ _ h => h) ?_ ?_ hHeld ?_; rotate_left; (focus rfl); (focus (intro wq hSq; obtain ⟨s0, s1, s2, s3⟩ := hSq; (first | (go_simp; done) | (go_simp; with_reducible rfl)))))
      try simp only [Act.put, List.setIfInBounds_toArray, List.set_cons_zero, List.set_cons_succ]
      first | (refine takeU (i := 27) (oi := { dst := some 75, op := Op.move (Operand.tmp 10), type := 22, pos := "law.go:60", after := #[{ on := 25, ground := Ground.guard }], guard := some (25, true) }) rfl (by kernel_rfl) (by kernel_rfl) (by kernel_rfl) (fun _ _ _ h => h) ?_ hHeld ?_; (focus rfl)) | (refine takeW (i := 27) (oi := { dst := some 75, op := Op.move (Operand.tmp 10), type := 22, pos := "law.go:60", after := #[{ on := 25, ground := Ground.guard }], guard := some (25, true) }) ?_ rfl (by kernel_rfl) (by kernel_rfl) (by kernel_rfl) (fun _ _ _ h => h) ?_ ?_ hHeld ?_; rotate_left; (focus rfl); (focus (intro wq hSq; obtain ⟨s0, s1, s2, s3⟩ := hSq; (first | (go_simp; done) | (go_simp; with_reducible rfl)))))
      try simp only [Act.put, List.setIfInBounds_toArray, List.set_cons_zero, List.set_cons_succ]
      first | (refine takeU (i := 29) (oi := { dst := some 77, op := Op.load 26 (Operand.tmp 6), type := 26, pos := "law.go:60", after := #[{ on := 25, ground := Ground.guard }], guard := some (25, true) }) rfl (by kernel_rfl) (by kernel_rfl) (by kernel_rfl) (fun _ _ _ h => h) ?_ hHeld ?_; (focus rfl)) | (refine takeW (i := 29) (oi := { dst := some 77, op := Op.load 26 (Operand.tmp 6), type := 26, pos := "law.go:60", after := #[{ on := 25, ground := Ground.guard }], guard := some (25, true) }) ?_ rfl (by kernel_rfl) (by kernel_rfl) (by kernel_rfl) (fun _ _ _ h => h) ?_ ?_ hHeld ?_; rotate_left; (focus rfl); (focus (intro wq hSq; obtain ⟨s0, s1, s2, s3⟩ := hSq; (first | (go_simp; done) | (go_simp; with_reducible rfl)))))
      try simp only [Act.put, List.setIfInBounds_toArray, List.set_cons_zero, List.set_cons_succ]
      first | (refine takeU (i := 30) (oi := { dst := some 78, op := Op.move (Operand.tmp 1), type := 3, pos := "law.go:60", after := #[{ on := 25, ground := Ground.guard }], guard := some (25, true) }) rfl (by kernel_rfl) (by kernel_rfl) (by kernel_rfl) (fun _ _ _ h => h) ?_ hHeld ?_; (focus rfl)) | (refine takeW (i := 30) (oi := { dst := some 78, op := Op.move (Operand.tmp 1), type := 3, pos := "law.go:60", after := #[{ on := 25, ground := Ground.guard }], guard := some (25, true) }) ?_ rfl (by kernel_rfl) (by kernel_rfl) (by kernel_rfl) (fun _ _ _ h => h) ?_ ?_ hHeld ?_; rotate_left; (focus rfl); (focus (intro wq hSq; obtain ⟨s0, s1, s2, s3⟩ := hSq; (first | (go_simp; done) | (go_simp; with_reducible rfl)))))
      try simp only [Act.put, List.setIfInBounds_toArray, List.set_cons_zero, List.set_cons_succ]
      refine wpAnyH_ready (rs := [28]) (by kernel_rfl) (by simp) ?_
      refine AllReadyH.cons (o := { dst := some 76, op := Op.call { callee := Callee.value (Operand.func 12), args := #[Operand.tmp 74, Operand.tmp 75], argTypes := #[31, 22] }, type := 26, pos := "law.go:60", after := #[{ on := 26, ground := Ground.data }, { on := 27, ground := Ground.data }, { on := 25, ground := Ground.chain }, { on := 25, ground := Ground.guard }], guard := some (25, true) }) rfl (fun K hK => ?_) AllReadyH.nil
      first | (refine effU ?_ ?_; (focus rfl)) | (go_simp; (go_at_call 12; refine (tapeTensor_any (c := cs) (H7.out.tape 10 rfl) ((H7.out.ownInts 9 rfl).2.2) (by omega)).mono ?_; rintro f8 x8 ⟨⟨v, dte, rfl, hOT, hdl⟩, hR⟩; obtain ⟨vs, vd, nte, mte, rfl, ho1, ho2⟩ := hOT; obtain ⟨Ste, kte, rfl, hkte, _, _⟩ := ho1.form; obtain ⟨Dte, jte, rfl, hjte, _, _⟩ := ho2.form; have H8 := Lib.hid (H7.out.readOwn2 10 rfl hR ho1 ho2 (Ne.symm ty_ne.1)); have y8_0 := H8.out.oldCell (p := ⟨w.heap.size, 0, none⟩) hl0 B0.out; have y8_1 := H8.out.oldCell (p := ⟨w.heap.size, 1, none⟩) hl0 B1.out; have y8_2 := H8.out.oldCell (p := ⟨w.heap.size + 1, 0, none⟩) hl1 B2.out; have y8_3 := H8.out.oldCell (p := ⟨w.heap.size + 1, 1, none⟩) hl1 B3.out; clear hR ho1 ho2 hdl); go_wp2_with fail)
      refine hK.out _ _ ?_ (fun hHeld2 => ?_)
      · first | assumption | (exact ⟨y8_0, y8_1, y8_2, y8_3⟩)
      clear hK K hHeld
      have hHeld := hHeld2; clear hHeld2
      try simp only [Act.put, List.setIfInBounds_toArray, List.set_cons_zero, List.set_cons_succ]
      refine wpAnyH_ready (rs := [31]) (by kernel_rfl) (by simp) ?_
      refine AllReadyH.cons (o := { dst := some 79, op := Op.call { callee := Callee.value (Operand.func 8), args := #[Operand.tmp 76, Operand.tmp 77, Operand.tmp 78], argTypes := #[26, 26, 3] }, type := 4, pos := "law.go:60", after := #[{ on := 28, ground := Ground.data }, { on := 29, ground := Ground.data }, { on := 30, ground := Ground.data }, { on := 28, ground := Ground.chain }, { on := 25, ground := Ground.guard }], guard := some (25, true) }) rfl (fun K hK => ?_) AllReadyH.nil
      first | (refine effU ?_ ?_; (focus rfl)) | (go_simp; (go_at_call 8; refine (l7same_any (nn) (ten_mk (H8.out.ownInts 0 rfl).2.2 (H8.out.ownInts 0 rfl).2.1 (H8.out.ownInts 1 rfl).2.2 (H8.out.ownInts 1 rfl).2.1) (H8.out.oldTen (ten_mk H_h3.out k3 H_h4.out k4))).mono ?_; rintro f9 x9 ⟨rfl, hb⟩; have H9 := Lib.hid (H8.out.below hb); have y9_0 := H9.out.oldCell (p := ⟨w.heap.size, 0, none⟩) hl0 B0.out; have y9_1 := H9.out.oldCell (p := ⟨w.heap.size, 1, none⟩) hl0 B1.out; have y9_2 := H9.out.oldCell (p := ⟨w.heap.size + 1, 0, none⟩) hl1 B2.out; have y9_3 := H9.out.oldCell (p := ⟨w.heap.size + 1, 1, none⟩) hl1 B3.out; clear hb); go_wp2_with fail)
      refine hK.out _ _ ?_ (fun hHeld2 => ?_)
      · first | assumption | (exact ⟨y9_0, y9_1, y9_2, y9_3⟩)
      clear hK K hHeld
      have hHeld := hHeld2; clear hHeld2
      try simp only [Act.put, List.setIfInBounds_toArray, List.set_cons_zero, List.set_cons_succ]
      first | (refine takeU (i := 32) (oi := { dst := some 80, op := Op.pick (Operand.tmp 73) (Operand.tmp 79) (Operand.const (Value.bool false)), type := 4, pos := "law.go:60", after := #[{ on := 25, ground := Ground.data }, { on := 31, ground := Ground.data }], guard := none }) rfl (by kernel_rfl) (by kernel_rfl) (by kernel_rfl) (fun _ _ _ h => h) ?_ hHeld ?_; (focus rfl)) | (refine takeW (i := 32) (oi := { dst := some 80, op := Op.pick (Operand.tmp 73) (Operand.tmp 79) (Operand.const (Value.bool false)), type := 4, pos := "law.go:60", after := #[{ on := 25, ground := Ground.data }, { on := 31, ground := Ground.data }], guard := none }) ?_ rfl (by kernel_rfl) (by kernel_rfl) (by kernel_rfl) (fun _ _ _ h => h) ?_ ?_ hHeld ?_; rotate_left; (focus rfl); (focus (intro wq hSq; obtain ⟨s0, s1, s2, s3⟩ := hSq; (first | (go_simp; done) | (go_simp; with_reducible rfl)))))
      try simp only [Act.put, List.setIfInBounds_toArray, List.set_cons_zero, List.set_cons_succ]
      first | (refine takeU (i := 33) (oi := { dst := some 81, op := Op.move (Operand.tmp 80), type := 4, pos := "law.go:60", after := #[{ on := 32, ground := Ground.data }, { on := 31, ground := Ground.chain }], guard := none }) rfl (by kernel_rfl) (by kernel_rfl) (by kernel_rfl) (fun _ _ _ h => h) ?_ hHeld ?_; (focus rfl)) | (refine takeW (i := 33) (oi := { dst := some 81, op := Op.move (Operand.tmp 80), type := 4, pos := "law.go:60", after := #[{ on := 32, ground := Ground.data }, { on := 31, ground := Ground.chain }], guard := none }) ?_ rfl (by kernel_rfl) (by kernel_rfl) (by kernel_rfl) (fun _ _ _ h => h) ?_ ?_ hHeld ?_; rotate_left; (focus rfl); (focus (intro wq hSq; obtain ⟨s0, s1, s2, s3⟩ := hSq; (first | (go_simp; done) | (go_simp; with_reducible rfl)))))
      try simp only [Act.put, List.setIfInBounds_toArray, List.set_cons_zero, List.set_cons_succ]
      refine wpAnyH_ready (rs := [34]) (by kernel_rfl) (by simp) ?_
      refine AllReadyH.cons (o := { dst := some 82, op := Op.call { callee := Callee.value (Operand.func 9), args := #[], argTypes := #[] }, type := 4, pos := "law.go:60", after := #[{ on := 33, ground := Ground.chain }, { on := 33, ground := Ground.guard }], guard := some (33, true) }) rfl (fun K hK => ?_) AllReadyH.nil
      first | (refine effU ?_ ?_; (focus rfl)) | (go_simp; (go_at_call 9; refine (l7known_any _).mono ?_; rintro f10 x10 ⟨rfl, hb⟩; have H10 := Lib.hid (H9.out.below hb); have y10_0 := H10.out.oldCell (p := ⟨w.heap.size, 0, none⟩) hl0 B0.out; have y10_1 := H10.out.oldCell (p := ⟨w.heap.size, 1, none⟩) hl0 B1.out; have y10_2 := H10.out.oldCell (p := ⟨w.heap.size + 1, 0, none⟩) hl1 B2.out; have y10_3 := H10.out.oldCell (p := ⟨w.heap.size + 1, 1, none⟩) hl1 B3.out; clear hb); go_wp2_with fail)
      refine hK.out _ _ ?_ (fun hHeld2 => ?_)
      · first | assumption | (exact ⟨y10_0, y10_1, y10_2, y10_3⟩)
      clear hK K hHeld
      have hHeld := hHeld2; clear hHeld2
      try simp only [Act.put, List.setIfInBounds_toArray, List.set_cons_zero, List.set_cons_succ]
      first | (refine takeU (i := 35) (oi := { dst := some 83, op := Op.pick (Operand.tmp 81) (Operand.tmp 82) (Operand.const (Value.bool false)), type := 4, pos := "law.go:60", after := #[{ on := 33, ground := Ground.data }, { on := 34, ground := Ground.data }], guard := none }) rfl (by kernel_rfl) (by kernel_rfl) (by kernel_rfl) (fun _ _ _ h => h) ?_ hHeld ?_; (focus rfl)) | (refine takeW (i := 35) (oi := { dst := some 83, op := Op.pick (Operand.tmp 81) (Operand.tmp 82) (Operand.const (Value.bool false)), type := 4, pos := "law.go:60", after := #[{ on := 33, ground := Ground.data }, { on := 34, ground := Ground.data }], guard := none }) ?_ rfl (by kernel_rfl) (by kernel_rfl) (by kernel_rfl) (fun _ _ _ h => h) ?_ ?_ hHeld ?_; rotate_left; (focus rfl); (focus (intro wq hSq; obtain ⟨s0, s1, s2, s3⟩ := hSq; (first | (go_simp; done) | (go_simp; with_reducible rfl)))))
      try simp only [Act.put, List.setIfInBounds_toArray, List.set_cons_zero, List.set_cons_succ]
      first | (refine takeU (i := 36) (oi := { dst := some 8, op := Op.assign (Operand.tmp 83), type := 4, pos := "law.go:60", after := #[{ on := 35, ground := Ground.data }, { on := 34, ground := Ground.chain }, { on := 0, ground := Ground.phase }, { on := 1, ground := Ground.phase }, { on := 2, ground := Ground.phase }, { on := 3, ground := Ground.phase }, { on := 4, ground := Ground.phase }, { on := 5, ground := Ground.phase }, { on := 6, ground := Ground.phase }, { on := 7, ground := Ground.phase }, { on := 8, ground := Ground.phase }, { on := 9, ground := Ground.phase }, { on := 10, ground := Ground.phase }, { on := 11, ground := Ground.phase }, { on := 12, ground := Ground.phase }, { on := 13, ground := Ground.phase }, { on := 14, ground := Ground.phase }, { on := 15, ground := Ground.phase }, { on := 16, ground := Ground.phase }, { on := 17, ground := Ground.phase }, { on := 18, ground := Ground.phase }, { on := 19, ground := Ground.phase }, { on := 20, ground := Ground.phase }, { on := 21, ground := Ground.phase }, { on := 22, ground := Ground.phase }, { on := 23, ground := Ground.phase }, { on := 24, ground := Ground.phase }, { on := 25, ground := Ground.phase }, { on := 26, ground := Ground.phase }, { on := 27, ground := Ground.phase }, { on := 28, ground := Ground.phase }, { on := 29, ground := Ground.phase }, { on := 30, ground := Ground.phase }, { on := 31, ground := Ground.phase }, { on := 32, ground := Ground.phase }, { on := 33, ground := Ground.phase }, { on := 34, ground := Ground.phase }, { on := 35, ground := Ground.phase }], guard := none }) rfl (by kernel_rfl) (by kernel_rfl) (by kernel_rfl) (fun _ _ _ h => h) ?_ hHeld ?_; (focus rfl)) | (refine takeW (i := 36) (oi := { dst := some 8, op := Op.assign (Operand.tmp 83), type := 4, pos := "law.go:60", after := #[{ on := 35, ground := Ground.data }, { on := 34, ground := Ground.chain }, { on := 0, ground := Ground.phase }, { on := 1, ground := Ground.phase }, { on := 2, ground := Ground.phase }, { on := 3, ground := Ground.phase }, { on := 4, ground := Ground.phase }, { on := 5, ground := Ground.phase }, { on := 6, ground := Ground.phase }, { on := 7, ground := Ground.phase }, { on := 8, ground := Ground.phase }, { on := 9, ground := Ground.phase }, { on := 10, ground := Ground.phase }, { on := 11, ground := Ground.phase }, { on := 12, ground := Ground.phase }, { on := 13, ground := Ground.phase }, { on := 14, ground := Ground.phase }, { on := 15, ground := Ground.phase }, { on := 16, ground := Ground.phase }, { on := 17, ground := Ground.phase }, { on := 18, ground := Ground.phase }, { on := 19, ground := Ground.phase }, { on := 20, ground := Ground.phase }, { on := 21, ground := Ground.phase }, { on := 22, ground := Ground.phase }, { on := 23, ground := Ground.phase }, { on := 24, ground := Ground.phase }, { on := 25, ground := Ground.phase }, { on := 26, ground := Ground.phase }, { on := 27, ground := Ground.phase }, { on := 28, ground := Ground.phase }, { on := 29, ground := Ground.phase }, { on := 30, ground := Ground.phase }, { on := 31, ground := Ground.phase }, { on := 32, ground := Ground.phase }, { on := 33, ground := Ground.phase }, { on := 34, ground := Ground.phase }, { on := 35, ground := Ground.phase }], guard := none }) ?_ rfl (by kernel_rfl) (by kernel_rfl) (by kernel_rfl) (fun _ _ _ h => h) ?_ ?_ hHeld ?_; rotate_left; (focus rfl); (focus (intro wq hSq; obtain ⟨s0, s1, s2, s3⟩ := hSq; (first | (go_simp; done) | (go_simp; with_reducible rfl)))))
      try simp only [Act.put, List.setIfInBounds_toArray, List.set_cons_zero, List.set_cons_succ]
      refine wpAnyH_done (by kernel_rfl) ?_ _
      go_wp2
      go_ret
      exact ⟨rfl, then_ HQ.out H10.out.base⟩
end Go.Proofs.Ytihjobpdphljiaa
