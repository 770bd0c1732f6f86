/- The walk of the law AxesSpread. -/
import Derived.Test.YthgpiimagbcmbaaL5Known
import Derived.Test.YthgpiimagbcmbaaAxB
import Derived.Test.YthgpiimagbcmbaaBox
import Derived.Test.YthgpiimagbcmbaaSepB
import Derived.Test.YthgpiimagbcmbaaKitReg
namespace Go.Proofs.Ythgpiimagbcmbaa
open Go.RowKit

/-- How many of the first i numbers are not k. -/
def cnt (k i : Nat) : Nat := if i ≤ k then i else i - 1

set_option maxRecDepth 100000 in
set_option maxHeartbeats 12800000 in
theorem aspread_walk {w : World} {A0 : Option Addr} {n0 c0 : Nat} {x0 : List Int} (a nn : Int) (h0 : Ints w A0 n0 x0) (ha : Fits a) :
    Calls Try.prog 5 #[.slice A0 n0 c0, .int .i64 a, .int .i64 nn] w fun e w' => e = .returned (.bool true) ∧ Below w.heap.size w w' := by
  have q0 := Below.refl w.heap.size w
  have hT := tape_new (c := c0) (h0.below q0)
  have hz1 : (w).heap.size = w.heap.size := by simp
  skip
  have s1 := Sep.startTape hz1 hT
  clear hT
  go_enter Try.func5, Try.ntmps5
  go_upto_region 2 with fail
  generalize (w).alloc (.cells #[.slice A0 n0 c0, .int .i64 0] 28) = v at *
  have HQ := Lib.hid q0
  have HZ1 := Lib.hid hz1
  have H := Lib.hid s1
  skip
  clear s1 hz1 q0 h0
  have HFA := Lib.hid ha
  clear ha
  have C0 := tapeShape_any (H.out.tape 0 rfl)
  go_wp2_with fail
  refine C0.mono ?_; rintro e0 w0 ⟨⟨v, ns, s, rfl, hO, hns, hsh⟩, hR⟩
  obtain ⟨As, cs, rfl, hcs, hI, _⟩ := hO.form
  have Rs := Lib.hid (small_shape (by rw [hI.len]; exact hns) hsh)
  have Ds := Lib.hid hsh
  have Ls := Lib.hid hI.len
  replace H := Lib.hid (H.out.readOwn 0 rfl hR hO)
  clear C0 hO hI hsh hR
  have C1 := tapeTensor_any (c := cs) (H.out.tape 1 rfl) ((H.out.ownInts 0 rfl).2.2) (by omega)
  go_wp2_with fail
  refine C1.mono ?_; rintro e1 w1 ⟨⟨v, dt, rfl, hOT, hdl⟩, hR⟩
  obtain ⟨vs, vd, nt, mt, rfl, ho1, ho2⟩ := hOT
  obtain ⟨St, kt, rfl, _, _, _⟩ := ho1.form
  obtain ⟨Dt, jt, rfl, _, _, _⟩ := ho2.form
  have Lt := Lib.hid hdl
  have h5 := H.out.readOwn2 1 rfl hR ho1 ho2 (Ne.symm ty_ne.1)
  have h6 := h5.allocBox w1.heap.size 25 [.slice St nt kt, .slice Dt mt jt] rfl
  clear C1 ho1 ho2 h5 hR hdl
  go_upto_region 4 with fail
  generalize w1.alloc (.cells #[.slice St nt kt, .slice Dt mt jt] 25) = v1 at *
  generalize w1.heap.size = gt at *
  replace H := Lib.hid h6
  clear h6
  go_cut [10] (fun q wx => ∃ k : Nat, q = .int .i64 k ∧ k ≤ ns ∧ v1 = wx)
  case first =>
    obtain ⟨hf1, hf2⟩ := HFA.out
    by_cases g0 : 0 ≤ a
    · have q1 := Int.emod_nonneg a (b := (ns : Int) + 1) (by omega)
      have q2 := Int.emod_lt_of_pos a (b := (ns : Int) + 1) (by omega)
      have q3 := Int.emod_nonneg (a % ((ns : Int) + 1) + ns + 1) (b := (ns : Int) + 1) (by omega)
      have q4 := Int.emod_lt_of_pos (a % ((ns : Int) + 1) + ns + 1) (b := (ns : Int) + 1) (by omega)
      go_wp2_with fail
      go_meet
      exact ⟨((a % ((ns : Int) + 1) + ns + 1) % ((ns : Int) + 1)).toNat, by rw [Int.toNat_of_nonneg q3], by omega, rfl⟩
    · have q := tmod_bd_ (a := a) (L := ns + 1) (by omega) (by omega)
      rw [show ((ns + 1 : Nat) : Int) = (ns : Int) + 1 by omega] at q
      obtain ⟨q1, q2⟩ := q
      have q3 := Int.emod_nonneg (a.tmod ((ns : Int) + 1) + ns + 1) (b := (ns : Int) + 1) (by omega)
      have q4 := Int.emod_lt_of_pos (a.tmod ((ns : Int) + 1) + ns + 1) (b := (ns : Int) + 1) (by omega)
      go_wp2_with fail
      go_meet
      exact ⟨((a.tmod ((ns : Int) + 1) + ns + 1) % ((ns : Int) + 1)).toNat, by rw [Int.toNat_of_nonneg q3], by omega, rfl⟩
  case rest =>
    obtain ⟨k, rfl, hk, rfl⟩ := hcut
    go_upto_region 5 with fail
    go_cut [11] (fun q wx => ∃ m : Nat, q = .int .i64 m ∧ 1 ≤ m ∧ m ≤ 4 ∧ v1 = wx)
    case first =>
      have e3 := and3 nn
      have q1 := Int.emod_nonneg nn (b := 4) (by omega)
      have q2 := Int.emod_lt_of_pos nn (b := 4) (by omega)
      go_wp2_with fail
      go_meet
      exact ⟨(1 + nn % 4).toNat, by rw [Int.toNat_of_nonneg (by omega)], by omega, by omega, rfl⟩
    case rest =>
      obtain ⟨m, rfl, hm1, hm2, rfl⟩ := hcut
      go_upto_region 6 with fail
      have hcs2 := (H.out.ownInts 3 rfl).2.1
      have hst := ((H.out.ownInts 3 rfl).2.2).take hk
      have hkc : k ≤ cs := by omega
      obtain ⟨Dd, hDd⟩ : ∃ D, (if cs = k then As else As.map (·.add k)) = D := ⟨_, rfl⟩
      have HDd := Lib.hid hDd
      go_cut [12] (fun q wx => ∃ (Ao : Option Addr) (co : Nat), q = .slice Ao (ns + 1) co ∧ Sep w wx (.own 3 (.slice Ao (ns + 1) co) (ns + 1) (ins s k m) :: [.box gt 25 [.slice St nt kt, .slice Dt mt jt], .own 3 (.slice St nt kt) nt s, .own 2 (.slice Dt mt jt) mt dt, .own 3 (.slice As ns cs) ns s, .tape w.heap.size]))
      case first =>
        have E1 := Lib.hid (H.out.empty 3).drew
        have E2 := Lib.hid ((H.out.empty 3).lit 3 #[.int .i64 m] [(m : Int)] 1 (v1.heap.size + 1) (by simp) rfl (by simp [litOk]; omega)).drew
        have E3 := ((H.out.lit 3 #[.int .i64 m] [(m : Int)] 1 v1.heap.size rfl rfl (by simp [litOk]; omega)).empty 3).drew
        rw [size_alloc] at E3
        replace E3 := Lib.hid E3
        have T1 : Ints (v1.alloc (.cells #[] 3)).drew As k (s.take k) := hst.alloc _
        have T2 : Ints ((v1.alloc (.cells #[] 3)).alloc (.cells #[.int .i64 m] 3)).drew As k (s.take k) := (hst.alloc _).alloc _
        have T3 : Ints ((v1.alloc (.cells #[.int .i64 m] 3)).alloc (.cells #[] 3)).drew As k (s.take k) := (hst.alloc _).alloc _
        go_region_law (first
          | (refine step_appends_sep rfl (.tmp 54) (.tmp 57) 22 3 rfl Try.underlying22 Try.infoInt G2.out 0 rfl rfl Dd (ns - k) _ (s.drop k) rfl hsl ?_ ?_; (focus omega); intro x3 y3 h3; have G3 := Lib.hid h3; clear h3)
          | (refine step_append_sep rfl (.tmp 51) (.tmp 53) 22 3 rfl Try.underlying22 Try.infoInt G1.out 0 rfl rfl (m : Int) ⟨by omega, by omega⟩ _ rfl ?_ ?_; (focus omega); intro x2 y2 h2; have G2 := Lib.hid h2; clear h2; have hsl := ((G2.out.ownInts 4 rfl).2.2).drop hk hcs2; rw [HDd.out] at hsl)
          | (refine step_appends_sep rfl (.tmp 51) (.tmp 53) 22 3 rfl Try.underlying22 Try.infoInt G1a.out 1 rfl rfl _ 1 1 [(m : Int)] rfl ((G1a.out.ownInts 0 rfl).2.2) ?_ ?_; (focus omega); intro x2 y2 h2; have G2 := Lib.hid (h2.sub (l' := .own 3 x2 (0 + k + 1) ([] ++ s.take k ++ [(m : Int)]) :: [.box gt 25 [.slice St nt kt, .slice Dt mt jt], .own 3 (.slice St nt kt) nt s, .own 2 (.slice Dt mt jt) mt dt, .own 3 (.slice As ns cs) ns s, .tape w.heap.size]) [1, 2, 3, 4, 5, 6] rfl (by decide)); clear h2; have hsl := ((G2.out.ownInts 4 rfl).2.2).drop hk hcs2; rw [HDd.out] at hsl)
          | (refine step_appends_sep rfl (.tmp 51) (.tmp 53) 22 3 rfl Try.underlying22 Try.infoInt G1b.out 0 rfl rfl _ 1 1 [(m : Int)] rfl ((G1b.out.ownInts 1 rfl).2.2) ?_ ?_; (focus omega); intro x2 y2 h2; have G2 := Lib.hid (h2.sub (l' := .own 3 x2 (0 + k + 1) ([] ++ s.take k ++ [(m : Int)]) :: [.box gt 25 [.slice St nt kt, .slice Dt mt jt], .own 3 (.slice St nt kt) nt s, .own 2 (.slice Dt mt jt) mt dt, .own 3 (.slice As ns cs) ns s, .tape w.heap.size]) [0, 2, 3, 4, 5, 6] rfl (by decide)); clear h2; have hsl := ((G2.out.ownInts 4 rfl).2.2).drop hk hcs2; rw [HDd.out] at hsl)
          | (refine step_appends_sep rfl (.tmp 47) (.tmp 50) 22 3 rfl Try.underlying22 Try.infoInt E1.out 0 rfl rfl As k cs (s.take k) rfl T1 ?_ ?_; (focus omega); intro x1 y1 h1; have G1 := Lib.hid h1; clear h1)
          | (refine step_appends_sep rfl (.tmp 47) (.tmp 50) 22 3 rfl Try.underlying22 Try.infoInt E2.out 1 rfl rfl As k cs (s.take k) rfl T2 ?_ ?_; (focus omega); intro x1 y1 h1; have G1a := Lib.hid h1; clear h1)
          | (refine step_appends_sep rfl (.tmp 47) (.tmp 50) 22 3 rfl Try.underlying22 Try.infoInt E3.out 0 rfl rfl As k cs (s.take k) rfl T3 ?_ ?_; (focus omega); intro x1 y1 h1; have G1b := Lib.hid h1; clear h1))
        all_goals
          obtain ⟨Ao, co, hv, _, _, _⟩ := (G3.out.ownS 0 rfl).form
          subst hv
          go_wp2_with fail
          go_meet
          exact ⟨Ao, co, by rw [show 0 + k + 1 + (ns - k) = ns + 1 by omega], G3.out.recast (by simp [ins]; omega)⟩
      case rest =>
        obtain ⟨Ao, co, rfl, hS⟩ := hcut
        replace H := Lib.hid (((hS.addNil 3).addNil 3).addNil 3)
        clear hS hst
        have hol := Lib.hid (ins_length (l := s) (k := k) (m : Int) (by have := Ls.out; omega))
        go_wp2_with fail
        go_loopw [61, 13, 14, 15] (fun kv av fv zv wr => ∃ i : Nat, kv = .int .i64 i ∧ i ≤ ns + 1 ∧ Sep w wr [.own 3 zv i ((ins s k m).take i), .own 3 fv i (List.replicate i 0), .own 3 av (cnt k i) ((skip k ns).take (cnt k i)), .own 3 (.slice Ao (ns + 1) co) (ns + 1) (ins s k m), .box gt 25 [.slice St nt kt, .slice Dt mt jt], .own 3 (.slice St nt kt) nt s, .own 2 (.slice Dt mt jt) mt dt, .own 3 (.slice As ns cs) ns s, .tape w.heap.size]) (fun kv _ _ _ _ => ns + 1 - (intOf kv).toNat)
        case atStart => exact ⟨0, rfl, by omega, by rw [show cnt k 0 = 0 by simp [cnt]]; exact H.out⟩
        case round =>
          clear H
          obtain ⟨i, rfl, hi, hS⟩ := hrel
          by_cases hli : i < ns + 1
          · obtain ⟨oa, y, hoA, _, hy, hcy, hfy⟩ := ((hS.ownInts 3 rfl).2.2).at_ (k := i) hli
            subst hoA
            have HY := Lib.hid hy
            have HFY := Lib.hid hfy
            have HTZ := Lib.hid (show (ins s k m).take i ++ [y] = (ins s k m).take (i + 1) by rw [List.take_add_one, hy]; rfl)
            have HTF := Lib.hid (show List.replicate i (0 : Int) ++ [0] = List.replicate (i + 1) 0 by rw [List.replicate_succ'])
            have H := Lib.hid hS
            clear hS hy hfy
            by_cases hik : i = k
            · have d1 : ((i : Int) != (k : Int)) = false := by simp [hik]
              have d2 : (i != k) = false := by simp [hik]
              have HCN := Lib.hid (show cnt k (i + 1) = cnt k i by rw [cnt, cnt, if_neg (by omega), if_pos (by omega)]; omega)
              have HIK := Lib.hid hik
              clear hik
              go_upto_region 13 with fail
              have G0 := Lib.hid H.out.drew
              have hc0 := ((H.out.ownInts 3 rfl).2.2).get HY.out
              refine wp_region_held_drew (S := (fun w' => w'.cell? (oa.add i) = some (.int .i64 y))) (by kernel_rfl) ?_ (fun hHeld => ?_)
              · exact hc0
              first | (refine takeU (i := 0) (oi := { dst := some 71, op := Op.move (Operand.tmp 14), type := 22, pos := "law.go:145", after := #[], guard := none }) rfl (by kernel_rfl) (by kernel_rfl) (by kernel_rfl) (fun _ _ _ h => h) ?_ hHeld ?_; (focus rfl)) | (refine takeW (i := 0) (oi := { dst := some 71, op := Op.move (Operand.tmp 14), type := 22, pos := "law.go:145", after := #[], guard := none }) ?_ rfl (by kernel_rfl) (by kernel_rfl) (by kernel_rfl) (fun _ _ _ h => h) ?_ ?_ hHeld ?_; rotate_left; (focus rfl); (focus (intro wq hSq; obtain sq0 := hSq; (first | (go_simp; done) | (go_simp; with_reducible rfl)))))
              try simp only [Act.put, List.setIfInBounds_toArray, List.set_cons_zero, List.set_cons_succ]
              first | (refine takeU (i := 3) (oi := { dst := some 74, op := Op.move (Operand.tmp 15), type := 22, pos := "law.go:145", after := #[], guard := none }) rfl (by kernel_rfl) (by kernel_rfl) (by kernel_rfl) (fun _ _ _ h => h) ?_ hHeld ?_; (focus rfl)) | (refine takeW (i := 3) (oi := { dst := some 74, op := Op.move (Operand.tmp 15), type := 22, pos := "law.go:145", after := #[], guard := none }) ?_ rfl (by kernel_rfl) (by kernel_rfl) (by kernel_rfl) (fun _ _ _ h => h) ?_ ?_ hHeld ?_; rotate_left; (focus rfl); (focus (intro wq hSq; obtain sq0 := hSq; (first | (go_simp; done) | (go_simp; with_reducible rfl)))))
              try simp only [Act.put, List.setIfInBounds_toArray, List.set_cons_zero, List.set_cons_succ]
              first | (refine takeU (i := 4) (oi := { dst := some 75, op := Op.move (Operand.tmp 12), type := 22, pos := "law.go:145", after := #[], guard := none }) rfl (by kernel_rfl) (by kernel_rfl) (by kernel_rfl) (fun _ _ _ h => h) ?_ hHeld ?_; (focus rfl)) | (refine takeW (i := 4) (oi := { dst := some 75, op := Op.move (Operand.tmp 12), type := 22, pos := "law.go:145", after := #[], guard := none }) ?_ rfl (by kernel_rfl) (by kernel_rfl) (by kernel_rfl) (fun _ _ _ h => h) ?_ ?_ hHeld ?_; rotate_left; (focus rfl); (focus (intro wq hSq; obtain sq0 := hSq; (first | (go_simp; done) | (go_simp; with_reducible rfl)))))
              try simp only [Act.put, List.setIfInBounds_toArray, List.set_cons_zero, List.set_cons_succ]
              first | (refine takeU (i := 5) (oi := { dst := some 76, op := Op.move (Operand.tmp 16), type := 3, pos := "law.go:145", after := #[], guard := none }) rfl (by kernel_rfl) (by kernel_rfl) (by kernel_rfl) (fun _ _ _ h => h) ?_ hHeld ?_; (focus rfl)) | (refine takeW (i := 5) (oi := { dst := some 76, op := Op.move (Operand.tmp 16), type := 3, pos := "law.go:145", after := #[], guard := none }) ?_ rfl (by kernel_rfl) (by kernel_rfl) (by kernel_rfl) (fun _ _ _ h => h) ?_ ?_ hHeld ?_; rotate_left; (focus rfl); (focus (intro wq hSq; obtain sq0 := hSq; (first | (go_simp; done) | (go_simp; with_reducible rfl)))))
              try simp only [Act.put, List.setIfInBounds_toArray, List.set_cons_zero, List.set_cons_succ]
              first | (refine takeU (i := 6) (oi := { dst := some 77, op := Op.indexAddr 22 (Operand.tmp 75) (Operand.tmp 76), type := 0, pos := "law.go:145", after := #[{ on := 4, ground := Ground.data }, { on := 5, ground := Ground.data }], guard := none }) rfl (by kernel_rfl) (by kernel_rfl) (by kernel_rfl) (fun _ _ _ h => h) ?_ hHeld ?_; (focus rfl)) | (refine takeW (i := 6) (oi := { dst := some 77, op := Op.indexAddr 22 (Operand.tmp 75) (Operand.tmp 76), type := 0, pos := "law.go:145", after := #[{ on := 4, ground := Ground.data }, { on := 5, ground := Ground.data }], guard := none }) ?_ rfl (by kernel_rfl) (by kernel_rfl) (by kernel_rfl) (fun _ _ _ h => h) ?_ ?_ hHeld ?_; rotate_left; (focus rfl); (focus (intro wq hSq; obtain sq0 := hSq; (first | (go_simp; done) | (go_simp; with_reducible rfl)))))
              try simp only [Act.put, List.setIfInBounds_toArray, List.set_cons_zero, List.set_cons_succ]
              first | (refine takeU (i := 7) (oi := { dst := some 78, op := Op.load 3 (Operand.tmp 77), type := 3, pos := "law.go:145", after := #[{ on := 6, ground := Ground.data }], guard := none }) rfl (by kernel_rfl) (by kernel_rfl) (by kernel_rfl) (fun _ _ _ h => h) ?_ hHeld ?_; (focus rfl)) | (refine takeW (i := 7) (oi := { dst := some 78, op := Op.load 3 (Operand.tmp 77), type := 3, pos := "law.go:145", after := #[{ on := 6, ground := Ground.data }], guard := none }) ?_ rfl (by kernel_rfl) (by kernel_rfl) (by kernel_rfl) (fun _ _ _ h => h) ?_ ?_ hHeld ?_; rotate_left; (focus rfl); (focus (intro wq hSq; obtain sq0 := hSq; (first | (go_simp; done) | (go_simp; with_reducible rfl)))))
              try simp only [Act.put, List.setIfInBounds_toArray, List.set_cons_zero, List.set_cons_succ]
              refine wpAnyH_ready (rs := [1, 8]) (by kernel_rfl) (by simp) ?_
              refine (AllReadyH.cons (o := { dst := some 72, op := Op.buildSlice 22 1 #[(0, Operand.const (Value.int IntKind.i64 0))], type := 22, pos := "law.go:145", after := #[], guard := none }) rfl (fun K hK => ?_) (AllReadyH.cons (o := { dst := some 79, op := Op.buildSlice 22 1 #[(0, Operand.tmp 78)], type := 22, pos := "law.go:145", after := #[{ on := 7, ground := Ground.data }], guard := none }) rfl (fun K hK => ?_) AllReadyH.nil))
              · go_simp
                try go_wp2_with fail
                refine hK.out _ _ ?_ (fun hHeld2 => ?_)
                · first | assumption | (exact alloc_keep _ hc0)
                clear hK K hHeld
                have hHeld := hHeld2; clear hHeld2
                try simp only [Act.put, List.setIfInBounds_toArray, List.set_cons_zero, List.set_cons_succ]
                refine wpAnyH_ready (rs := [2, 8]) (by kernel_rfl) (by simp) ?_
                refine (AllReadyH.cons (o := { dst := some 73, op := Op.call { callee := Callee.builtin Builtin.append, args := #[Operand.tmp 71, Operand.tmp 72], argTypes := #[22, 22] }, type := 22, pos := "law.go:145", after := #[{ on := 0, ground := Ground.data }, { on := 1, ground := Ground.data }], guard := none }) rfl (fun K hK => ?_) (AllReadyH.cons (o := { dst := some 79, op := Op.buildSlice 22 1 #[(0, Operand.tmp 78)], type := 22, pos := "law.go:145", after := #[{ on := 7, ground := Ground.data }], guard := none }) rfl (fun K hK => ?_) AllReadyH.nil))
                · (refine step_append_sep rfl (.tmp 71) (.tmp 72) 22 3 rfl Try.underlying22 Try.infoInt G0.out 1 rfl rfl 0 ⟨by omega, by omega⟩ _ rfl ?_ ?_; (focus omega); intro f5 y5 h5; have G1 := Lib.hid h5; have hc5 := ((G1.out.ownInts 3 rfl).2.2).get HY.out; clear h5)
                  refine hK.out _ _ ?_ (fun hHeld2 => ?_)
                  · first | assumption | (exact hc5)
                  clear hK K hHeld
                  have hHeld := hHeld2; clear hHeld2
                  try simp only [Act.put, List.setIfInBounds_toArray, List.set_cons_zero, List.set_cons_succ]
                  refine wpAnyH_ready (rs := [8]) (by kernel_rfl) (by simp) ?_
                  refine (AllReadyH.cons (o := { dst := some 79, op := Op.buildSlice 22 1 #[(0, Operand.tmp 78)], type := 22, pos := "law.go:145", after := #[{ on := 7, ground := Ground.data }], guard := none }) rfl (fun K hK => ?_) AllReadyH.nil)
                  go_simp
                  try go_wp2_with fail
                  refine hK.out _ _ ?_ (fun hHeld2 => ?_)
                  · first | assumption | (exact alloc_keep _ hc5)
                  clear hK K hHeld
                  have hHeld := hHeld2; clear hHeld2
                  try simp only [Act.put, List.setIfInBounds_toArray, List.set_cons_zero, List.set_cons_succ]
                  refine wpAnyH_ready (rs := [9]) (by kernel_rfl) (by simp) ?_
                  refine (AllReadyH.cons (o := { dst := some 80, op := Op.call { callee := Callee.builtin Builtin.append, args := #[Operand.tmp 74, Operand.tmp 79], argTypes := #[22, 22] }, type := 22, pos := "law.go:145", after := #[{ on := 3, ground := Ground.data }, { on := 8, ground := Ground.data }, { on := 2, ground := Ground.chain }], guard := none }) rfl (fun K hK => ?_) AllReadyH.nil)
                  (refine step_append_sep rfl (.tmp 74) (.tmp 79) 22 3 rfl Try.underlying22 Try.infoInt G1.out 0 rfl rfl y HFY.out _ rfl ?_ ?_; (focus omega); intro z5 y5 h5; have G2 := Lib.hid h5; have hc5 := ((G2.out.ownInts 3 rfl).2.2).get HY.out; clear h5)
                  refine hK.out _ _ ?_ (fun hHeld2 => ?_)
                  · first | assumption | (exact hc5)
                  clear hK K hHeld
                  have hHeld := hHeld2; clear hHeld2
                  try simp only [Act.put, List.setIfInBounds_toArray, List.set_cons_zero, List.set_cons_succ]
                  first | (refine takeU (i := 10) (oi := { dst := some 14, op := Op.assign (Operand.tmp 73), type := 22, pos := "law.go:145", after := #[{ on := 2, ground := Ground.data }, { on := 9, ground := Ground.chain }, { on := 0, ground := Ground.phase }, { on := 1, ground := Ground.phase }, { on := 2, ground := Ground.phase }, { on := 3, ground := Ground.textOnly Departure.lateStores }, { on := 4, ground := Ground.textOnly Departure.lateStores }, { on := 5, ground := Ground.textOnly Departure.lateStores }, { on := 6, ground := Ground.textOnly Departure.lateStores }, { on := 7, ground := Ground.textOnly Departure.lateStores }, { on := 8, ground := Ground.textOnly Departure.lateStores }, { on := 9, ground := Ground.textOnly Departure.lateStoresUnsure }], guard := none }) rfl (by kernel_rfl) (by kernel_rfl) (by kernel_rfl) (fun _ _ _ h => h) ?_ hHeld ?_; (focus rfl)) | (refine takeW (i := 10) (oi := { dst := some 14, op := Op.assign (Operand.tmp 73), type := 22, pos := "law.go:145", after := #[{ on := 2, ground := Ground.data }, { on := 9, ground := Ground.chain }, { on := 0, ground := Ground.phase }, { on := 1, ground := Ground.phase }, { on := 2, ground := Ground.phase }, { on := 3, ground := Ground.textOnly Departure.lateStores }, { on := 4, ground := Ground.textOnly Departure.lateStores }, { on := 5, ground := Ground.textOnly Departure.lateStores }, { on := 6, ground := Ground.textOnly Departure.lateStores }, { on := 7, ground := Ground.textOnly Departure.lateStores }, { on := 8, ground := Ground.textOnly Departure.lateStores }, { on := 9, ground := Ground.textOnly Departure.lateStoresUnsure }], guard := none }) ?_ rfl (by kernel_rfl) (by kernel_rfl) (by kernel_rfl) (fun _ _ _ h => h) ?_ ?_ hHeld ?_; rotate_left; (focus rfl); (focus (intro wq hSq; obtain sq0 := hSq; (first | (go_simp; done) | (go_simp; with_reducible rfl)))))
                  try simp only [Act.put, List.setIfInBounds_toArray, List.set_cons_zero, List.set_cons_succ]
                  first | (refine takeU (i := 11) (oi := { dst := some 15, op := Op.assign (Operand.tmp 80), type := 22, pos := "law.go:145", after := #[{ on := 9, ground := Ground.data }, { on := 10, ground := Ground.chain }, { on := 0, ground := Ground.phase }, { on := 1, ground := Ground.phase }, { on := 2, ground := Ground.phase }, { on := 3, ground := Ground.phase }, { on := 4, ground := Ground.phase }, { on := 5, ground := Ground.phase }, { on := 6, ground := Ground.phase }, { on := 7, ground := Ground.phase }, { on := 8, ground := Ground.phase }, { on := 9, ground := Ground.phase }, { on := 10, ground := Ground.phase }], guard := none }) rfl (by kernel_rfl) (by kernel_rfl) (by kernel_rfl) (fun _ _ _ h => h) ?_ hHeld ?_; (focus rfl)) | (refine takeW (i := 11) (oi := { dst := some 15, op := Op.assign (Operand.tmp 80), type := 22, pos := "law.go:145", after := #[{ on := 9, ground := Ground.data }, { on := 10, ground := Ground.chain }, { on := 0, ground := Ground.phase }, { on := 1, ground := Ground.phase }, { on := 2, ground := Ground.phase }, { on := 3, ground := Ground.phase }, { on := 4, ground := Ground.phase }, { on := 5, ground := Ground.phase }, { on := 6, ground := Ground.phase }, { on := 7, ground := Ground.phase }, { on := 8, ground := Ground.phase }, { on := 9, ground := Ground.phase }, { on := 10, ground := Ground.phase }], guard := none }) ?_ rfl (by kernel_rfl) (by kernel_rfl) (by kernel_rfl) (fun _ _ _ h => h) ?_ ?_ hHeld ?_; rotate_left; (focus rfl); (focus (intro wq hSq; obtain sq0 := hSq; (first | (go_simp; done) | (go_simp; with_reducible rfl)))))
                  try simp only [Act.put, List.setIfInBounds_toArray, List.set_cons_zero, List.set_cons_succ]
                  refine wpAnyH_done (by kernel_rfl) ?_ _
                  go_wp2
                  go_roundw
                  case rel => exact ⟨i + 1, by go_num, by omega, by rw [← HTZ.out, ← HTF.out, HCN.out]; exact G2.out⟩
                  case measure => simp [intOf]; omega
                · go_simp
                  try go_wp2_with fail
                  refine hK.out _ _ ?_ (fun hHeld2 => ?_)
                  · first | assumption | (exact alloc_keep _ (alloc_keep _ hc0))
                  clear hK K hHeld
                  have hHeld := hHeld2; clear hHeld2
                  try simp only [Act.put, List.setIfInBounds_toArray, List.set_cons_zero, List.set_cons_succ]
                  refine wpAnyH_ready (rs := [2]) (by kernel_rfl) (by simp) ?_
                  refine (AllReadyH.cons (o := { dst := some 73, op := Op.call { callee := Callee.builtin Builtin.append, args := #[Operand.tmp 71, Operand.tmp 72], argTypes := #[22, 22] }, type := 22, pos := "law.go:145", after := #[{ on := 0, ground := Ground.data }, { on := 1, ground := Ground.data }], guard := none }) rfl (fun K hK => ?_) AllReadyH.nil)
                  (have Gx := Lib.hid ((G0.out.lit 3 #[.int .i64 0] [0] 1 wr.heap.size rfl rfl rfl).lit 3 #[.int .i64 y] [y] 1 (wr.heap.size + 1) (by rw [size_alloc]; rfl) rfl (by have := HFY.out; unfold Fits at this; simp [litOk]; omega)); refine step_appends_sep rfl (.tmp 71) (.tmp 72) 22 3 rfl Try.underlying22 Try.infoInt Gx.out 3 rfl rfl _ 1 1 [0] rfl ((Gx.out.ownInts 1 rfl).2.2) ?_ ?_; (focus omega); intro f5 y5 h5; have G1 := Lib.hid h5; have hc5 := ((G1.out.ownInts 5 rfl).2.2).get HY.out; clear h5)
                  refine hK.out _ _ ?_ (fun hHeld2 => ?_)
                  · first | assumption | (exact hc5)
                  clear hK K hHeld
                  have hHeld := hHeld2; clear hHeld2
                  try simp only [Act.put, List.setIfInBounds_toArray, List.set_cons_zero, List.set_cons_succ]
                  refine wpAnyH_ready (rs := [9]) (by kernel_rfl) (by simp) ?_
                  refine (AllReadyH.cons (o := { dst := some 80, op := Op.call { callee := Callee.builtin Builtin.append, args := #[Operand.tmp 74, Operand.tmp 79], argTypes := #[22, 22] }, type := 22, pos := "law.go:145", after := #[{ on := 3, ground := Ground.data }, { on := 8, ground := Ground.data }, { on := 2, ground := Ground.chain }], guard := none }) rfl (fun K hK => ?_) AllReadyH.nil)
                  (refine step_appends_sep rfl (.tmp 74) (.tmp 79) 22 3 rfl Try.underlying22 Try.infoInt G1.out 2 rfl rfl _ 1 1 [y] rfl ((G1.out.ownInts 0 rfl).2.2) ?_ ?_; (focus omega); intro z5 y5 h5; have h6 := h5.sub (l' := .own 3 z5 (i + 1) ((ins s k m).take i ++ [y]) :: .own 3 f5 (i + 1) (List.replicate i 0 ++ [0]) :: [.own 3 _ (cnt k i) ((skip k ns).take (cnt k i)), .own 3 (.slice (some oa) (ns + 1) co) (ns + 1) (ins s k m), .box gt 25 [.slice St nt kt, .slice Dt mt jt], .own 3 (.slice St nt kt) nt s, .own 2 (.slice Dt mt jt) mt dt, .own 3 (.slice As ns cs) ns s, .tape w.heap.size]) [2, 3, 4, 5, 6, 7, 8, 9, 10] rfl (by decide); have G2 := Lib.hid h6; have hc5 := ((G2.out.ownInts 3 rfl).2.2).get HY.out; clear h5 h6)
                  refine hK.out _ _ ?_ (fun hHeld2 => ?_)
                  · first | assumption | (exact hc5)
                  clear hK K hHeld
                  have hHeld := hHeld2; clear hHeld2
                  try simp only [Act.put, List.setIfInBounds_toArray, List.set_cons_zero, List.set_cons_succ]
                  first | (refine takeU (i := 10) (oi := { dst := some 14, op := Op.assign (Operand.tmp 73), type := 22, pos := "law.go:145", after := #[{ on := 2, ground := Ground.data }, { on := 9, ground := Ground.chain }, { on := 0, ground := Ground.phase }, { on := 1, ground := Ground.phase }, { on := 2, ground := Ground.phase }, { on := 3, ground := Ground.textOnly Departure.lateStores }, { on := 4, ground := Ground.textOnly Departure.lateStores }, { on := 5, ground := Ground.textOnly Departure.lateStores }, { on := 6, ground := Ground.textOnly Departure.lateStores }, { on := 7, ground := Ground.textOnly Departure.lateStores }, { on := 8, ground := Ground.textOnly Departure.lateStores }, { on := 9, ground := Ground.textOnly Departure.lateStoresUnsure }], guard := none }) rfl (by kernel_rfl) (by kernel_rfl) (by kernel_rfl) (fun _ _ _ h => h) ?_ hHeld ?_; (focus rfl)) | (refine takeW (i := 10) (oi := { dst := some 14, op := Op.assign (Operand.tmp 73), type := 22, pos := "law.go:145", after := #[{ on := 2, ground := Ground.data }, { on := 9, ground := Ground.chain }, { on := 0, ground := Ground.phase }, { on := 1, ground := Ground.phase }, { on := 2, ground := Ground.phase }, { on := 3, ground := Ground.textOnly Departure.lateStores }, { on := 4, ground := Ground.textOnly Departure.lateStores }, { on := 5, ground := Ground.textOnly Departure.lateStores }, { on := 6, ground := Ground.textOnly Departure.lateStores }, { on := 7, ground := Ground.textOnly Departure.lateStores }, { on := 8, ground := Ground.textOnly Departure.lateStores }, { on := 9, ground := Ground.textOnly Departure.lateStoresUnsure }], guard := none }) ?_ rfl (by kernel_rfl) (by kernel_rfl) (by kernel_rfl) (fun _ _ _ h => h) ?_ ?_ hHeld ?_; rotate_left; (focus rfl); (focus (intro wq hSq; obtain sq0 := hSq; (first | (go_simp; done) | (go_simp; with_reducible rfl)))))
                  try simp only [Act.put, List.setIfInBounds_toArray, List.set_cons_zero, List.set_cons_succ]
                  first | (refine takeU (i := 11) (oi := { dst := some 15, op := Op.assign (Operand.tmp 80), type := 22, pos := "law.go:145", after := #[{ on := 9, ground := Ground.data }, { on := 10, ground := Ground.chain }, { on := 0, ground := Ground.phase }, { on := 1, ground := Ground.phase }, { on := 2, ground := Ground.phase }, { on := 3, ground := Ground.phase }, { on := 4, ground := Ground.phase }, { on := 5, ground := Ground.phase }, { on := 6, ground := Ground.phase }, { on := 7, ground := Ground.phase }, { on := 8, ground := Ground.phase }, { on := 9, ground := Ground.phase }, { on := 10, ground := Ground.phase }], guard := none }) rfl (by kernel_rfl) (by kernel_rfl) (by kernel_rfl) (fun _ _ _ h => h) ?_ hHeld ?_; (focus rfl)) | (refine takeW (i := 11) (oi := { dst := some 15, op := Op.assign (Operand.tmp 80), type := 22, pos := "law.go:145", after := #[{ on := 9, ground := Ground.data }, { on := 10, ground := Ground.chain }, { on := 0, ground := Ground.phase }, { on := 1, ground := Ground.phase }, { on := 2, ground := Ground.phase }, { on := 3, ground := Ground.phase }, { on := 4, ground := Ground.phase }, { on := 5, ground := Ground.phase }, { on := 6, ground := Ground.phase }, { on := 7, ground := Ground.phase }, { on := 8, ground := Ground.phase }, { on := 9, ground := Ground.phase }, { on := 10, ground := Ground.phase }], guard := none }) ?_ rfl (by kernel_rfl) (by kernel_rfl) (by kernel_rfl) (fun _ _ _ h => h) ?_ ?_ hHeld ?_; rotate_left; (focus rfl); (focus (intro wq hSq; obtain sq0 := hSq; (first | (go_simp; done) | (go_simp; with_reducible rfl)))))
                  try simp only [Act.put, List.setIfInBounds_toArray, List.set_cons_zero, List.set_cons_succ]
                  refine wpAnyH_done (by kernel_rfl) ?_ _
                  go_wp2
                  go_roundw
                  case rel => exact ⟨i + 1, by go_num, by omega, by rw [← HTZ.out, ← HTF.out, HCN.out]; exact G2.out⟩
                  case measure => simp [intOf]; omega
              · go_simp
                try go_wp2_with fail
                refine hK.out _ _ ?_ (fun hHeld2 => ?_)
                · first | assumption | (exact alloc_keep _ hc0)
                clear hK K hHeld
                have hHeld := hHeld2; clear hHeld2
                try simp only [Act.put, List.setIfInBounds_toArray, List.set_cons_zero, List.set_cons_succ]
                refine wpAnyH_ready (rs := [1]) (by kernel_rfl) (by simp) ?_
                refine (AllReadyH.cons (o := { dst := some 72, op := Op.buildSlice 22 1 #[(0, Operand.const (Value.int IntKind.i64 0))], type := 22, pos := "law.go:145", after := #[], guard := none }) rfl (fun K hK => ?_) AllReadyH.nil)
                go_simp
                try go_wp2_with fail
                refine hK.out _ _ ?_ (fun hHeld2 => ?_)
                · first | assumption | (exact alloc_keep _ (alloc_keep _ hc0))
                clear hK K hHeld
                have hHeld := hHeld2; clear hHeld2
                try simp only [Act.put, List.setIfInBounds_toArray, List.set_cons_zero, List.set_cons_succ]
                refine wpAnyH_ready (rs := [2]) (by kernel_rfl) (by simp) ?_
                refine (AllReadyH.cons (o := { dst := some 73, op := Op.call { callee := Callee.builtin Builtin.append, args := #[Operand.tmp 71, Operand.tmp 72], argTypes := #[22, 22] }, type := 22, pos := "law.go:145", after := #[{ on := 0, ground := Ground.data }, { on := 1, ground := Ground.data }], guard := none }) rfl (fun K hK => ?_) AllReadyH.nil)
                (have Gx := Lib.hid ((G0.out.lit 3 #[.int .i64 y] [y] 1 wr.heap.size rfl rfl (by have := HFY.out; unfold Fits at this; simp [litOk]; omega)).lit 3 #[.int .i64 0] [0] 1 (wr.heap.size + 1) (by rw [size_alloc]; rfl) rfl rfl); refine step_appends_sep rfl (.tmp 71) (.tmp 72) 22 3 rfl Try.underlying22 Try.infoInt Gx.out 3 rfl rfl _ 1 1 [0] rfl ((Gx.out.ownInts 0 rfl).2.2) ?_ ?_; (focus omega); intro f5 y5 h5; have G1 := Lib.hid h5; have hc5 := ((G1.out.ownInts 5 rfl).2.2).get HY.out; clear h5)
                refine hK.out _ _ ?_ (fun hHeld2 => ?_)
                · first | assumption | (exact hc5)
                clear hK K hHeld
                have hHeld := hHeld2; clear hHeld2
                try simp only [Act.put, List.setIfInBounds_toArray, List.set_cons_zero, List.set_cons_succ]
                refine wpAnyH_ready (rs := [9]) (by kernel_rfl) (by simp) ?_
                refine (AllReadyH.cons (o := { dst := some 80, op := Op.call { callee := Callee.builtin Builtin.append, args := #[Operand.tmp 74, Operand.tmp 79], argTypes := #[22, 22] }, type := 22, pos := "law.go:145", after := #[{ on := 3, ground := Ground.data }, { on := 8, ground := Ground.data }, { on := 2, ground := Ground.chain }], guard := none }) rfl (fun K hK => ?_) AllReadyH.nil)
                (refine step_appends_sep rfl (.tmp 74) (.tmp 79) 22 3 rfl Try.underlying22 Try.infoInt G1.out 2 rfl rfl _ 1 1 [y] rfl ((G1.out.ownInts 1 rfl).2.2) ?_ ?_; (focus omega); intro z5 y5 h5; have h6 := h5.sub (l' := .own 3 z5 (i + 1) ((ins s k m).take i ++ [y]) :: .own 3 f5 (i + 1) (List.replicate i 0 ++ [0]) :: [.own 3 _ (cnt k i) ((skip k ns).take (cnt k i)), .own 3 (.slice (some oa) (ns + 1) co) (ns + 1) (ins s k m), .box gt 25 [.slice St nt kt, .slice Dt mt jt], .own 3 (.slice St nt kt) nt s, .own 2 (.slice Dt mt jt) mt dt, .own 3 (.slice As ns cs) ns s, .tape w.heap.size]) [2, 3, 4, 5, 6, 7, 8, 9, 10] rfl (by decide); have G2 := Lib.hid h6; have hc5 := ((G2.out.ownInts 3 rfl).2.2).get HY.out; clear h5 h6)
                refine hK.out _ _ ?_ (fun hHeld2 => ?_)
                · first | assumption | (exact hc5)
                clear hK K hHeld
                have hHeld := hHeld2; clear hHeld2
                try simp only [Act.put, List.setIfInBounds_toArray, List.set_cons_zero, List.set_cons_succ]
                first | (refine takeU (i := 10) (oi := { dst := some 14, op := Op.assign (Operand.tmp 73), type := 22, pos := "law.go:145", after := #[{ on := 2, ground := Ground.data }, { on := 9, ground := Ground.chain }, { on := 0, ground := Ground.phase }, { on := 1, ground := Ground.phase }, { on := 2, ground := Ground.phase }, { on := 3, ground := Ground.textOnly Departure.lateStores }, { on := 4, ground := Ground.textOnly Departure.lateStores }, { on := 5, ground := Ground.textOnly Departure.lateStores }, { on := 6, ground := Ground.textOnly Departure.lateStores }, { on := 7, ground := Ground.textOnly Departure.lateStores }, { on := 8, ground := Ground.textOnly Departure.lateStores }, { on := 9, ground := Ground.textOnly Departure.lateStoresUnsure }], guard := none }) rfl (by kernel_rfl) (by kernel_rfl) (by kernel_rfl) (fun _ _ _ h => h) ?_ hHeld ?_; (focus rfl)) | (refine takeW (i := 10) (oi := { dst := some 14, op := Op.assign (Operand.tmp 73), type := 22, pos := "law.go:145", after := #[{ on := 2, ground := Ground.data }, { on := 9, ground := Ground.chain }, { on := 0, ground := Ground.phase }, { on := 1, ground := Ground.phase }, { on := 2, ground := Ground.phase }, { on := 3, ground := Ground.textOnly Departure.lateStores }, { on := 4, ground := Ground.textOnly Departure.lateStores }, { on := 5, ground := Ground.textOnly Departure.lateStores }, { on := 6, ground := Ground.textOnly Departure.lateStores }, { on := 7, ground := Ground.textOnly Departure.lateStores }, { on := 8, ground := Ground.textOnly Departure.lateStores }, { on := 9, ground := Ground.textOnly Departure.lateStoresUnsure }], guard := none }) ?_ rfl (by kernel_rfl) (by kernel_rfl) (by kernel_rfl) (fun _ _ _ h => h) ?_ ?_ hHeld ?_; rotate_left; (focus rfl); (focus (intro wq hSq; obtain sq0 := hSq; (first | (go_simp; done) | (go_simp; with_reducible rfl)))))
                try simp only [Act.put, List.setIfInBounds_toArray, List.set_cons_zero, List.set_cons_succ]
                first | (refine takeU (i := 11) (oi := { dst := some 15, op := Op.assign (Operand.tmp 80), type := 22, pos := "law.go:145", after := #[{ on := 9, ground := Ground.data }, { on := 10, ground := Ground.chain }, { on := 0, ground := Ground.phase }, { on := 1, ground := Ground.phase }, { on := 2, ground := Ground.phase }, { on := 3, ground := Ground.phase }, { on := 4, ground := Ground.phase }, { on := 5, ground := Ground.phase }, { on := 6, ground := Ground.phase }, { on := 7, ground := Ground.phase }, { on := 8, ground := Ground.phase }, { on := 9, ground := Ground.phase }, { on := 10, ground := Ground.phase }], guard := none }) rfl (by kernel_rfl) (by kernel_rfl) (by kernel_rfl) (fun _ _ _ h => h) ?_ hHeld ?_; (focus rfl)) | (refine takeW (i := 11) (oi := { dst := some 15, op := Op.assign (Operand.tmp 80), type := 22, pos := "law.go:145", after := #[{ on := 9, ground := Ground.data }, { on := 10, ground := Ground.chain }, { on := 0, ground := Ground.phase }, { on := 1, ground := Ground.phase }, { on := 2, ground := Ground.phase }, { on := 3, ground := Ground.phase }, { on := 4, ground := Ground.phase }, { on := 5, ground := Ground.phase }, { on := 6, ground := Ground.phase }, { on := 7, ground := Ground.phase }, { on := 8, ground := Ground.phase }, { on := 9, ground := Ground.phase }, { on := 10, ground := Ground.phase }], guard := none }) ?_ rfl (by kernel_rfl) (by kernel_rfl) (by kernel_rfl) (fun _ _ _ h => h) ?_ ?_ hHeld ?_; rotate_left; (focus rfl); (focus (intro wq hSq; obtain sq0 := hSq; (first | (go_simp; done) | (go_simp; with_reducible rfl)))))
                try simp only [Act.put, List.setIfInBounds_toArray, List.set_cons_zero, List.set_cons_succ]
                refine wpAnyH_done (by kernel_rfl) ?_ _
                go_wp2
                go_roundw
                case rel => exact ⟨i + 1, by go_num, by omega, by rw [← HTZ.out, ← HTF.out, HCN.out]; exact G2.out⟩
                case measure => simp [intOf]; omega
            · have d1 : ((i : Int) != (k : Int)) = true := by simp; omega
              have d2 : (i != k) = true := by simp [hik]
              have HCN := Lib.hid (show cnt k (i + 1) = cnt k i + 1 by rw [cnt, cnt]; by_cases h : i < k; rw [if_pos (by omega), if_pos (by omega)]; rw [if_neg (by omega), if_neg (by omega)]; omega)
              have HSK := Lib.hid (show (skip k ns).take (cnt k i) ++ [(i : Int)] = (skip k ns).take (cnt k i + 1) by rw [List.take_add_one]; congr 1; rw [cnt]; by_cases h : i < k; rw [if_pos (by omega), skip_at (by omega), if_pos h]; rfl; rw [if_neg (by omega), skip_at (by omega), if_neg (by omega)]; show [(i : Int)] = [((i - 1 : Nat) : Int) + 1]; congr 1; omega)
              have hcn : cnt k i ≤ 100 := by rw [cnt]; have := Ls.out; split <;> omega
              have HIK := Lib.hid hik
              clear hik
              go_wp2_with (at_builtin; refine wpList_append_sep rfl (.tmp 67) (.tmp 69) 22 3 rfl Try.underlying22 Try.infoInt H.out 2 rfl rfl (i : Int) ⟨by omega, by omega⟩ _ rfl ?c1 ?_)
              case c1 => omega
              intro v9 w9 h9
              replace H := Lib.hid h9
              clear h9 hcy
              go_upto_region 13 with fail
              have G0 := Lib.hid H.out.drew
              have hc0 := ((H.out.ownInts 3 rfl).2.2).get HY.out
              refine wp_region_held_drew (S := (fun w' => w'.cell? (oa.add i) = some (.int .i64 y))) (by kernel_rfl) ?_ (fun hHeld => ?_)
              · exact hc0
              first | (refine takeU (i := 0) (oi := { dst := some 71, op := Op.move (Operand.tmp 14), type := 22, pos := "law.go:145", after := #[], guard := none }) rfl (by kernel_rfl) (by kernel_rfl) (by kernel_rfl) (fun _ _ _ h => h) ?_ hHeld ?_; (focus rfl)) | (refine takeW (i := 0) (oi := { dst := some 71, op := Op.move (Operand.tmp 14), type := 22, pos := "law.go:145", after := #[], guard := none }) ?_ rfl (by kernel_rfl) (by kernel_rfl) (by kernel_rfl) (fun _ _ _ h => h) ?_ ?_ hHeld ?_; rotate_left; (focus rfl); (focus (intro wq hSq; obtain sq0 := hSq; (first | (go_simp; done) | (go_simp; with_reducible rfl)))))
              try simp only [Act.put, List.setIfInBounds_toArray, List.set_cons_zero, List.set_cons_succ]
              first | (refine takeU (i := 3) (oi := { dst := some 74, op := Op.move (Operand.tmp 15), type := 22, pos := "law.go:145", after := #[], guard := none }) rfl (by kernel_rfl) (by kernel_rfl) (by kernel_rfl) (fun _ _ _ h => h) ?_ hHeld ?_; (focus rfl)) | (refine takeW (i := 3) (oi := { dst := some 74, op := Op.move (Operand.tmp 15), type := 22, pos := "law.go:145", after := #[], guard := none }) ?_ rfl (by kernel_rfl) (by kernel_rfl) (by kernel_rfl) (fun _ _ _ h => h) ?_ ?_ hHeld ?_; rotate_left; (focus rfl); (focus (intro wq hSq; obtain sq0 := hSq; (first | (go_simp; done) | (go_simp; with_reducible rfl)))))
              try simp only [Act.put, List.setIfInBounds_toArray, List.set_cons_zero, List.set_cons_succ]
              first | (refine takeU (i := 4) (oi := { dst := some 75, op := Op.move (Operand.tmp 12), type := 22, pos := "law.go:145", after := #[], guard := none }) rfl (by kernel_rfl) (by kernel_rfl) (by kernel_rfl) (fun _ _ _ h => h) ?_ hHeld ?_; (focus rfl)) | (refine takeW (i := 4) (oi := { dst := some 75, op := Op.move (Operand.tmp 12), type := 22, pos := "law.go:145", after := #[], guard := none }) ?_ rfl (by kernel_rfl) (by kernel_rfl) (by kernel_rfl) (fun _ _ _ h => h) ?_ ?_ hHeld ?_; rotate_left; (focus rfl); (focus (intro wq hSq; obtain sq0 := hSq; (first | (go_simp; done) | (go_simp; with_reducible rfl)))))
              try simp only [Act.put, List.setIfInBounds_toArray, List.set_cons_zero, List.set_cons_succ]
              first | (refine takeU (i := 5) (oi := { dst := some 76, op := Op.move (Operand.tmp 16), type := 3, pos := "law.go:145", after := #[], guard := none }) rfl (by kernel_rfl) (by kernel_rfl) (by kernel_rfl) (fun _ _ _ h => h) ?_ hHeld ?_; (focus rfl)) | (refine takeW (i := 5) (oi := { dst := some 76, op := Op.move (Operand.tmp 16), type := 3, pos := "law.go:145", after := #[], guard := none }) ?_ rfl (by kernel_rfl) (by kernel_rfl) (by kernel_rfl) (fun _ _ _ h => h) ?_ ?_ hHeld ?_; rotate_left; (focus rfl); (focus (intro wq hSq; obtain sq0 := hSq; (first | (go_simp; done) | (go_simp; with_reducible rfl)))))
              try simp only [Act.put, List.setIfInBounds_toArray, List.set_cons_zero, List.set_cons_succ]
              first | (refine takeU (i := 6) (oi := { dst := some 77, op := Op.indexAddr 22 (Operand.tmp 75) (Operand.tmp 76), type := 0, pos := "law.go:145", after := #[{ on := 4, ground := Ground.data }, { on := 5, ground := Ground.data }], guard := none }) rfl (by kernel_rfl) (by kernel_rfl) (by kernel_rfl) (fun _ _ _ h => h) ?_ hHeld ?_; (focus rfl)) | (refine takeW (i := 6) (oi := { dst := some 77, op := Op.indexAddr 22 (Operand.tmp 75) (Operand.tmp 76), type := 0, pos := "law.go:145", after := #[{ on := 4, ground := Ground.data }, { on := 5, ground := Ground.data }], guard := none }) ?_ rfl (by kernel_rfl) (by kernel_rfl) (by kernel_rfl) (fun _ _ _ h => h) ?_ ?_ hHeld ?_; rotate_left; (focus rfl); (focus (intro wq hSq; obtain sq0 := hSq; (first | (go_simp; done) | (go_simp; with_reducible rfl)))))
              try simp only [Act.put, List.setIfInBounds_toArray, List.set_cons_zero, List.set_cons_succ]
              first | (refine takeU (i := 7) (oi := { dst := some 78, op := Op.load 3 (Operand.tmp 77), type := 3, pos := "law.go:145", after := #[{ on := 6, ground := Ground.data }], guard := none }) rfl (by kernel_rfl) (by kernel_rfl) (by kernel_rfl) (fun _ _ _ h => h) ?_ hHeld ?_; (focus rfl)) | (refine takeW (i := 7) (oi := { dst := some 78, op := Op.load 3 (Operand.tmp 77), type := 3, pos := "law.go:145", after := #[{ on := 6, ground := Ground.data }], guard := none }) ?_ rfl (by kernel_rfl) (by kernel_rfl) (by kernel_rfl) (fun _ _ _ h => h) ?_ ?_ hHeld ?_; rotate_left; (focus rfl); (focus (intro wq hSq; obtain sq0 := hSq; (first | (go_simp; done) | (go_simp; with_reducible rfl)))))
              try simp only [Act.put, List.setIfInBounds_toArray, List.set_cons_zero, List.set_cons_succ]
              refine wpAnyH_ready (rs := [1, 8]) (by kernel_rfl) (by simp) ?_
              refine (AllReadyH.cons (o := { dst := some 72, op := Op.buildSlice 22 1 #[(0, Operand.const (Value.int IntKind.i64 0))], type := 22, pos := "law.go:145", after := #[], guard := none }) rfl (fun K hK => ?_) (AllReadyH.cons (o := { dst := some 79, op := Op.buildSlice 22 1 #[(0, Operand.tmp 78)], type := 22, pos := "law.go:145", after := #[{ on := 7, ground := Ground.data }], guard := none }) rfl (fun K hK => ?_) AllReadyH.nil))
              · go_simp
                try go_wp2_with fail
                refine hK.out _ _ ?_ (fun hHeld2 => ?_)
                · first | assumption | (exact alloc_keep _ hc0)
                clear hK K hHeld
                have hHeld := hHeld2; clear hHeld2
                try simp only [Act.put, List.setIfInBounds_toArray, List.set_cons_zero, List.set_cons_succ]
                refine wpAnyH_ready (rs := [2, 8]) (by kernel_rfl) (by simp) ?_
                refine (AllReadyH.cons (o := { dst := some 73, op := Op.call { callee := Callee.builtin Builtin.append, args := #[Operand.tmp 71, Operand.tmp 72], argTypes := #[22, 22] }, type := 22, pos := "law.go:145", after := #[{ on := 0, ground := Ground.data }, { on := 1, ground := Ground.data }], guard := none }) rfl (fun K hK => ?_) (AllReadyH.cons (o := { dst := some 79, op := Op.buildSlice 22 1 #[(0, Operand.tmp 78)], type := 22, pos := "law.go:145", after := #[{ on := 7, ground := Ground.data }], guard := none }) rfl (fun K hK => ?_) AllReadyH.nil))
                · (refine step_append_sep rfl (.tmp 71) (.tmp 72) 22 3 rfl Try.underlying22 Try.infoInt G0.out 1 rfl rfl 0 ⟨by omega, by omega⟩ _ rfl ?_ ?_; (focus omega); intro f5 y5 h5; have G1 := Lib.hid h5; have hc5 := ((G1.out.ownInts 3 rfl).2.2).get HY.out; clear h5)
                  refine hK.out _ _ ?_ (fun hHeld2 => ?_)
                  · first | assumption | (exact hc5)
                  clear hK K hHeld
                  have hHeld := hHeld2; clear hHeld2
                  try simp only [Act.put, List.setIfInBounds_toArray, List.set_cons_zero, List.set_cons_succ]
                  refine wpAnyH_ready (rs := [8]) (by kernel_rfl) (by simp) ?_
                  refine (AllReadyH.cons (o := { dst := some 79, op := Op.buildSlice 22 1 #[(0, Operand.tmp 78)], type := 22, pos := "law.go:145", after := #[{ on := 7, ground := Ground.data }], guard := none }) rfl (fun K hK => ?_) AllReadyH.nil)
                  go_simp
                  try go_wp2_with fail
                  refine hK.out _ _ ?_ (fun hHeld2 => ?_)
                  · first | assumption | (exact alloc_keep _ hc5)
                  clear hK K hHeld
                  have hHeld := hHeld2; clear hHeld2
                  try simp only [Act.put, List.setIfInBounds_toArray, List.set_cons_zero, List.set_cons_succ]
                  refine wpAnyH_ready (rs := [9]) (by kernel_rfl) (by simp) ?_
                  refine (AllReadyH.cons (o := { dst := some 80, op := Op.call { callee := Callee.builtin Builtin.append, args := #[Operand.tmp 74, Operand.tmp 79], argTypes := #[22, 22] }, type := 22, pos := "law.go:145", after := #[{ on := 3, ground := Ground.data }, { on := 8, ground := Ground.data }, { on := 2, ground := Ground.chain }], guard := none }) rfl (fun K hK => ?_) AllReadyH.nil)
                  (refine step_append_sep rfl (.tmp 74) (.tmp 79) 22 3 rfl Try.underlying22 Try.infoInt G1.out 0 rfl rfl y HFY.out _ rfl ?_ ?_; (focus omega); intro z5 y5 h5; have G2 := Lib.hid h5; have hc5 := ((G2.out.ownInts 3 rfl).2.2).get HY.out; clear h5)
                  refine hK.out _ _ ?_ (fun hHeld2 => ?_)
                  · first | assumption | (exact hc5)
                  clear hK K hHeld
                  have hHeld := hHeld2; clear hHeld2
                  try simp only [Act.put, List.setIfInBounds_toArray, List.set_cons_zero, List.set_cons_succ]
                  first | (refine takeU (i := 10) (oi := { dst := some 14, op := Op.assign (Operand.tmp 73), type := 22, pos := "law.go:145", after := #[{ on := 2, ground := Ground.data }, { on := 9, ground := Ground.chain }, { on := 0, ground := Ground.phase }, { on := 1, ground := Ground.phase }, { on := 2, ground := Ground.phase }, { on := 3, ground := Ground.textOnly Departure.lateStores }, { on := 4, ground := Ground.textOnly Departure.lateStores }, { on := 5, ground := Ground.textOnly Departure.lateStores }, { on := 6, ground := Ground.textOnly Departure.lateStores }, { on := 7, ground := Ground.textOnly Departure.lateStores }, { on := 8, ground := Ground.textOnly Departure.lateStores }, { on := 9, ground := Ground.textOnly Departure.lateStoresUnsure }], guard := none }) rfl (by kernel_rfl) (by kernel_rfl) (by kernel_rfl) (fun _ _ _ h => h) ?_ hHeld ?_; (focus rfl)) | (refine takeW (i := 10) (oi := { dst := some 14, op := Op.assign (Operand.tmp 73), type := 22, pos := "law.go:145", after := #[{ on := 2, ground := Ground.data }, { on := 9, ground := Ground.chain }, { on := 0, ground := Ground.phase }, { on := 1, ground := Ground.phase }, { on := 2, ground := Ground.phase }, { on := 3, ground := Ground.textOnly Departure.lateStores }, { on := 4, ground := Ground.textOnly Departure.lateStores }, { on := 5, ground := Ground.textOnly Departure.lateStores }, { on := 6, ground := Ground.textOnly Departure.lateStores }, { on := 7, ground := Ground.textOnly Departure.lateStores }, { on := 8, ground := Ground.textOnly Departure.lateStores }, { on := 9, ground := Ground.textOnly Departure.lateStoresUnsure }], guard := none }) ?_ rfl (by kernel_rfl) (by kernel_rfl) (by kernel_rfl) (fun _ _ _ h => h) ?_ ?_ hHeld ?_; rotate_left; (focus rfl); (focus (intro wq hSq; obtain sq0 := hSq; (first | (go_simp; done) | (go_simp; with_reducible rfl)))))
                  try simp only [Act.put, List.setIfInBounds_toArray, List.set_cons_zero, List.set_cons_succ]
                  first | (refine takeU (i := 11) (oi := { dst := some 15, op := Op.assign (Operand.tmp 80), type := 22, pos := "law.go:145", after := #[{ on := 9, ground := Ground.data }, { on := 10, ground := Ground.chain }, { on := 0, ground := Ground.phase }, { on := 1, ground := Ground.phase }, { on := 2, ground := Ground.phase }, { on := 3, ground := Ground.phase }, { on := 4, ground := Ground.phase }, { on := 5, ground := Ground.phase }, { on := 6, ground := Ground.phase }, { on := 7, ground := Ground.phase }, { on := 8, ground := Ground.phase }, { on := 9, ground := Ground.phase }, { on := 10, ground := Ground.phase }], guard := none }) rfl (by kernel_rfl) (by kernel_rfl) (by kernel_rfl) (fun _ _ _ h => h) ?_ hHeld ?_; (focus rfl)) | (refine takeW (i := 11) (oi := { dst := some 15, op := Op.assign (Operand.tmp 80), type := 22, pos := "law.go:145", after := #[{ on := 9, ground := Ground.data }, { on := 10, ground := Ground.chain }, { on := 0, ground := Ground.phase }, { on := 1, ground := Ground.phase }, { on := 2, ground := Ground.phase }, { on := 3, ground := Ground.phase }, { on := 4, ground := Ground.phase }, { on := 5, ground := Ground.phase }, { on := 6, ground := Ground.phase }, { on := 7, ground := Ground.phase }, { on := 8, ground := Ground.phase }, { on := 9, ground := Ground.phase }, { on := 10, ground := Ground.phase }], guard := none }) ?_ rfl (by kernel_rfl) (by kernel_rfl) (by kernel_rfl) (fun _ _ _ h => h) ?_ ?_ hHeld ?_; rotate_left; (focus rfl); (focus (intro wq hSq; obtain sq0 := hSq; (first | (go_simp; done) | (go_simp; with_reducible rfl)))))
                  try simp only [Act.put, List.setIfInBounds_toArray, List.set_cons_zero, List.set_cons_succ]
                  refine wpAnyH_done (by kernel_rfl) ?_ _
                  go_wp2
                  go_roundw
                  case rel => exact ⟨i + 1, by go_num, by omega, by rw [← HTZ.out, ← HTF.out, HCN.out, ← HSK.out]; exact G2.out⟩
                  case measure => simp [intOf]; omega
                · go_simp
                  try go_wp2_with fail
                  refine hK.out _ _ ?_ (fun hHeld2 => ?_)
                  · first | assumption | (exact alloc_keep _ (alloc_keep _ hc0))
                  clear hK K hHeld
                  have hHeld := hHeld2; clear hHeld2
                  try simp only [Act.put, List.setIfInBounds_toArray, List.set_cons_zero, List.set_cons_succ]
                  refine wpAnyH_ready (rs := [2]) (by kernel_rfl) (by simp) ?_
                  refine (AllReadyH.cons (o := { dst := some 73, op := Op.call { callee := Callee.builtin Builtin.append, args := #[Operand.tmp 71, Operand.tmp 72], argTypes := #[22, 22] }, type := 22, pos := "law.go:145", after := #[{ on := 0, ground := Ground.data }, { on := 1, ground := Ground.data }], guard := none }) rfl (fun K hK => ?_) AllReadyH.nil)
                  (have Gx := Lib.hid ((G0.out.lit 3 #[.int .i64 0] [0] 1 w9.heap.size rfl rfl rfl).lit 3 #[.int .i64 y] [y] 1 (w9.heap.size + 1) (by rw [size_alloc]; rfl) rfl (by have := HFY.out; unfold Fits at this; simp [litOk]; omega)); refine step_appends_sep rfl (.tmp 71) (.tmp 72) 22 3 rfl Try.underlying22 Try.infoInt Gx.out 3 rfl rfl _ 1 1 [0] rfl ((Gx.out.ownInts 1 rfl).2.2) ?_ ?_; (focus omega); intro f5 y5 h5; have G1 := Lib.hid h5; have hc5 := ((G1.out.ownInts 5 rfl).2.2).get HY.out; clear h5)
                  refine hK.out _ _ ?_ (fun hHeld2 => ?_)
                  · first | assumption | (exact hc5)
                  clear hK K hHeld
                  have hHeld := hHeld2; clear hHeld2
                  try simp only [Act.put, List.setIfInBounds_toArray, List.set_cons_zero, List.set_cons_succ]
                  refine wpAnyH_ready (rs := [9]) (by kernel_rfl) (by simp) ?_
                  refine (AllReadyH.cons (o := { dst := some 80, op := Op.call { callee := Callee.builtin Builtin.append, args := #[Operand.tmp 74, Operand.tmp 79], argTypes := #[22, 22] }, type := 22, pos := "law.go:145", after := #[{ on := 3, ground := Ground.data }, { on := 8, ground := Ground.data }, { on := 2, ground := Ground.chain }], guard := none }) rfl (fun K hK => ?_) AllReadyH.nil)
                  (refine step_appends_sep rfl (.tmp 74) (.tmp 79) 22 3 rfl Try.underlying22 Try.infoInt G1.out 2 rfl rfl _ 1 1 [y] rfl ((G1.out.ownInts 0 rfl).2.2) ?_ ?_; (focus omega); intro z5 y5 h5; have h6 := h5.sub (l' := .own 3 z5 (i + 1) ((ins s k m).take i ++ [y]) :: .own 3 f5 (i + 1) (List.replicate i 0 ++ [0]) :: [.own 3 _ (cnt k i + 1) ((skip k ns).take (cnt k i) ++ [(i : Int)]), .own 3 (.slice (some oa) (ns + 1) co) (ns + 1) (ins s k m), .box gt 25 [.slice St nt kt, .slice Dt mt jt], .own 3 (.slice St nt kt) nt s, .own 2 (.slice Dt mt jt) mt dt, .own 3 (.slice As ns cs) ns s, .tape w.heap.size]) [2, 3, 4, 5, 6, 7, 8, 9, 10] rfl (by decide); have G2 := Lib.hid h6; have hc5 := ((G2.out.ownInts 3 rfl).2.2).get HY.out; clear h5 h6)
                  refine hK.out _ _ ?_ (fun hHeld2 => ?_)
                  · first | assumption | (exact hc5)
                  clear hK K hHeld
                  have hHeld := hHeld2; clear hHeld2
                  try simp only [Act.put, List.setIfInBounds_toArray, List.set_cons_zero, List.set_cons_succ]
                  first | (refine takeU (i := 10) (oi := { dst := some 14, op := Op.assign (Operand.tmp 73), type := 22, pos := "law.go:145", after := #[{ on := 2, ground := Ground.data }, { on := 9, ground := Ground.chain }, { on := 0, ground := Ground.phase }, { on := 1, ground := Ground.phase }, { on := 2, ground := Ground.phase }, { on := 3, ground := Ground.textOnly Departure.lateStores }, { on := 4, ground := Ground.textOnly Departure.lateStores }, { on := 5, ground := Ground.textOnly Departure.lateStores }, { on := 6, ground := Ground.textOnly Departure.lateStores }, { on := 7, ground := Ground.textOnly Departure.lateStores }, { on := 8, ground := Ground.textOnly Departure.lateStores }, { on := 9, ground := Ground.textOnly Departure.lateStoresUnsure }], guard := none }) rfl (by kernel_rfl) (by kernel_rfl) (by kernel_rfl) (fun _ _ _ h => h) ?_ hHeld ?_; (focus rfl)) | (refine takeW (i := 10) (oi := { dst := some 14, op := Op.assign (Operand.tmp 73), type := 22, pos := "law.go:145", after := #[{ on := 2, ground := Ground.data }, { on := 9, ground := Ground.chain }, { on := 0, ground := Ground.phase }, { on := 1, ground := Ground.phase }, { on := 2, ground := Ground.phase }, { on := 3, ground := Ground.textOnly Departure.lateStores }, { on := 4, ground := Ground.textOnly Departure.lateStores }, { on := 5, ground := Ground.textOnly Departure.lateStores }, { on := 6, ground := Ground.textOnly Departure.lateStores }, { on := 7, ground := Ground.textOnly Departure.lateStores }, { on := 8, ground := Ground.textOnly Departure.lateStores }, { on := 9, ground := Ground.textOnly Departure.lateStoresUnsure }], guard := none }) ?_ rfl (by kernel_rfl) (by kernel_rfl) (by kernel_rfl) (fun _ _ _ h => h) ?_ ?_ hHeld ?_; rotate_left; (focus rfl); (focus (intro wq hSq; obtain sq0 := hSq; (first | (go_simp; done) | (go_simp; with_reducible rfl)))))
                  try simp only [Act.put, List.setIfInBounds_toArray, List.set_cons_zero, List.set_cons_succ]
                  first | (refine takeU (i := 11) (oi := { dst := some 15, op := Op.assign (Operand.tmp 80), type := 22, pos := "law.go:145", after := #[{ on := 9, ground := Ground.data }, { on := 10, ground := Ground.chain }, { on := 0, ground := Ground.phase }, { on := 1, ground := Ground.phase }, { on := 2, ground := Ground.phase }, { on := 3, ground := Ground.phase }, { on := 4, ground := Ground.phase }, { on := 5, ground := Ground.phase }, { on := 6, ground := Ground.phase }, { on := 7, ground := Ground.phase }, { on := 8, ground := Ground.phase }, { on := 9, ground := Ground.phase }, { on := 10, ground := Ground.phase }], guard := none }) rfl (by kernel_rfl) (by kernel_rfl) (by kernel_rfl) (fun _ _ _ h => h) ?_ hHeld ?_; (focus rfl)) | (refine takeW (i := 11) (oi := { dst := some 15, op := Op.assign (Operand.tmp 80), type := 22, pos := "law.go:145", after := #[{ on := 9, ground := Ground.data }, { on := 10, ground := Ground.chain }, { on := 0, ground := Ground.phase }, { on := 1, ground := Ground.phase }, { on := 2, ground := Ground.phase }, { on := 3, ground := Ground.phase }, { on := 4, ground := Ground.phase }, { on := 5, ground := Ground.phase }, { on := 6, ground := Ground.phase }, { on := 7, ground := Ground.phase }, { on := 8, ground := Ground.phase }, { on := 9, ground := Ground.phase }, { on := 10, ground := Ground.phase }], guard := none }) ?_ rfl (by kernel_rfl) (by kernel_rfl) (by kernel_rfl) (fun _ _ _ h => h) ?_ ?_ hHeld ?_; rotate_left; (focus rfl); (focus (intro wq hSq; obtain sq0 := hSq; (first | (go_simp; done) | (go_simp; with_reducible rfl)))))
                  try simp only [Act.put, List.setIfInBounds_toArray, List.set_cons_zero, List.set_cons_succ]
                  refine wpAnyH_done (by kernel_rfl) ?_ _
                  go_wp2
                  go_roundw
                  case rel => exact ⟨i + 1, by go_num, by omega, by rw [← HTZ.out, ← HTF.out, HCN.out, ← HSK.out]; exact G2.out⟩
                  case measure => simp [intOf]; omega
              · go_simp
                try go_wp2_with fail
                refine hK.out _ _ ?_ (fun hHeld2 => ?_)
                · first | assumption | (exact alloc_keep _ hc0)
                clear hK K hHeld
                have hHeld := hHeld2; clear hHeld2
                try simp only [Act.put, List.setIfInBounds_toArray, List.set_cons_zero, List.set_cons_succ]
                refine wpAnyH_ready (rs := [1]) (by kernel_rfl) (by simp) ?_
                refine (AllReadyH.cons (o := { dst := some 72, op := Op.buildSlice 22 1 #[(0, Operand.const (Value.int IntKind.i64 0))], type := 22, pos := "law.go:145", after := #[], guard := none }) rfl (fun K hK => ?_) AllReadyH.nil)
                go_simp
                try go_wp2_with fail
                refine hK.out _ _ ?_ (fun hHeld2 => ?_)
                · first | assumption | (exact alloc_keep _ (alloc_keep _ hc0))
                clear hK K hHeld
                have hHeld := hHeld2; clear hHeld2
                try simp only [Act.put, List.setIfInBounds_toArray, List.set_cons_zero, List.set_cons_succ]
                refine wpAnyH_ready (rs := [2]) (by kernel_rfl) (by simp) ?_
                refine (AllReadyH.cons (o := { dst := some 73, op := Op.call { callee := Callee.builtin Builtin.append, args := #[Operand.tmp 71, Operand.tmp 72], argTypes := #[22, 22] }, type := 22, pos := "law.go:145", after := #[{ on := 0, ground := Ground.data }, { on := 1, ground := Ground.data }], guard := none }) rfl (fun K hK => ?_) AllReadyH.nil)
                (have Gx := Lib.hid ((G0.out.lit 3 #[.int .i64 y] [y] 1 w9.heap.size rfl rfl (by have := HFY.out; unfold Fits at this; simp [litOk]; omega)).lit 3 #[.int .i64 0] [0] 1 (w9.heap.size + 1) (by rw [size_alloc]; rfl) rfl rfl); refine step_appends_sep rfl (.tmp 71) (.tmp 72) 22 3 rfl Try.underlying22 Try.infoInt Gx.out 3 rfl rfl _ 1 1 [0] rfl ((Gx.out.ownInts 0 rfl).2.2) ?_ ?_; (focus omega); intro f5 y5 h5; have G1 := Lib.hid h5; have hc5 := ((G1.out.ownInts 5 rfl).2.2).get HY.out; clear h5)
                refine hK.out _ _ ?_ (fun hHeld2 => ?_)
                · first | assumption | (exact hc5)
                clear hK K hHeld
                have hHeld := hHeld2; clear hHeld2
                try simp only [Act.put, List.setIfInBounds_toArray, List.set_cons_zero, List.set_cons_succ]
                refine wpAnyH_ready (rs := [9]) (by kernel_rfl) (by simp) ?_
                refine (AllReadyH.cons (o := { dst := some 80, op := Op.call { callee := Callee.builtin Builtin.append, args := #[Operand.tmp 74, Operand.tmp 79], argTypes := #[22, 22] }, type := 22, pos := "law.go:145", after := #[{ on := 3, ground := Ground.data }, { on := 8, ground := Ground.data }, { on := 2, ground := Ground.chain }], guard := none }) rfl (fun K hK => ?_) AllReadyH.nil)
                (refine step_appends_sep rfl (.tmp 74) (.tmp 79) 22 3 rfl Try.underlying22 Try.infoInt G1.out 2 rfl rfl _ 1 1 [y] rfl ((G1.out.ownInts 1 rfl).2.2) ?_ ?_; (focus omega); intro z5 y5 h5; have h6 := h5.sub (l' := .own 3 z5 (i + 1) ((ins s k m).take i ++ [y]) :: .own 3 f5 (i + 1) (List.replicate i 0 ++ [0]) :: [.own 3 _ (cnt k i + 1) ((skip k ns).take (cnt k i) ++ [(i : Int)]), .own 3 (.slice (some oa) (ns + 1) co) (ns + 1) (ins s k m), .box gt 25 [.slice St nt kt, .slice Dt mt jt], .own 3 (.slice St nt kt) nt s, .own 2 (.slice Dt mt jt) mt dt, .own 3 (.slice As ns cs) ns s, .tape w.heap.size]) [2, 3, 4, 5, 6, 7, 8, 9, 10] rfl (by decide); have G2 := Lib.hid h6; have hc5 := ((G2.out.ownInts 3 rfl).2.2).get HY.out; clear h5 h6)
                refine hK.out _ _ ?_ (fun hHeld2 => ?_)
                · first | assumption | (exact hc5)
                clear hK K hHeld
                have hHeld := hHeld2; clear hHeld2
                try simp only [Act.put, List.setIfInBounds_toArray, List.set_cons_zero, List.set_cons_succ]
                first | (refine takeU (i := 10) (oi := { dst := some 14, op := Op.assign (Operand.tmp 73), type := 22, pos := "law.go:145", after := #[{ on := 2, ground := Ground.data }, { on := 9, ground := Ground.chain }, { on := 0, ground := Ground.phase }, { on := 1, ground := Ground.phase }, { on := 2, ground := Ground.phase }, { on := 3, ground := Ground.textOnly Departure.lateStores }, { on := 4, ground := Ground.textOnly Departure.lateStores }, { on := 5, ground := Ground.textOnly Departure.lateStores }, { on := 6, ground := Ground.textOnly Departure.lateStores }, { on := 7, ground := Ground.textOnly Departure.lateStores }, { on := 8, ground := Ground.textOnly Departure.lateStores }, { on := 9, ground := Ground.textOnly Departure.lateStoresUnsure }], guard := none }) rfl (by kernel_rfl) (by kernel_rfl) (by kernel_rfl) (fun _ _ _ h => h) ?_ hHeld ?_; (focus rfl)) | (refine takeW (i := 10) (oi := { dst := some 14, op := Op.assign (Operand.tmp 73), type := 22, pos := "law.go:145", after := #[{ on := 2, ground := Ground.data }, { on := 9, ground := Ground.chain }, { on := 0, ground := Ground.phase }, { on := 1, ground := Ground.phase }, { on := 2, ground := Ground.phase }, { on := 3, ground := Ground.textOnly Departure.lateStores }, { on := 4, ground := Ground.textOnly Departure.lateStores }, { on := 5, ground := Ground.textOnly Departure.lateStores }, { on := 6, ground := Ground.textOnly Departure.lateStores }, { on := 7, ground := Ground.textOnly Departure.lateStores }, { on := 8, ground := Ground.textOnly Departure.lateStores }, { on := 9, ground := Ground.textOnly Departure.lateStoresUnsure }], guard := none }) ?_ rfl (by kernel_rfl) (by kernel_rfl) (by kernel_rfl) (fun _ _ _ h => h) ?_ ?_ hHeld ?_; rotate_left; (focus rfl); (focus (intro wq hSq; obtain sq0 := hSq; (first | (go_simp; done) | (go_simp; with_reducible rfl)))))
                try simp only [Act.put, List.setIfInBounds_toArray, List.set_cons_zero, List.set_cons_succ]
                first | (refine takeU (i := 11) (oi := { dst := some 15, op := Op.assign (Operand.tmp 80), type := 22, pos := "law.go:145", after := #[{ on := 9, ground := Ground.data }, { on := 10, ground := Ground.chain }, { on := 0, ground := Ground.phase }, { on := 1, ground := Ground.phase }, { on := 2, ground := Ground.phase }, { on := 3, ground := Ground.phase }, { on := 4, ground := Ground.phase }, { on := 5, ground := Ground.phase }, { on := 6, ground := Ground.phase }, { on := 7, ground := Ground.phase }, { on := 8, ground := Ground.phase }, { on := 9, ground := Ground.phase }, { on := 10, ground := Ground.phase }], guard := none }) rfl (by kernel_rfl) (by kernel_rfl) (by kernel_rfl) (fun _ _ _ h => h) ?_ hHeld ?_; (focus rfl)) | (refine takeW (i := 11) (oi := { dst := some 15, op := Op.assign (Operand.tmp 80), type := 22, pos := "law.go:145", after := #[{ on := 9, ground := Ground.data }, { on := 10, ground := Ground.chain }, { on := 0, ground := Ground.phase }, { on := 1, ground := Ground.phase }, { on := 2, ground := Ground.phase }, { on := 3, ground := Ground.phase }, { on := 4, ground := Ground.phase }, { on := 5, ground := Ground.phase }, { on := 6, ground := Ground.phase }, { on := 7, ground := Ground.phase }, { on := 8, ground := Ground.phase }, { on := 9, ground := Ground.phase }, { on := 10, ground := Ground.phase }], guard := none }) ?_ rfl (by kernel_rfl) (by kernel_rfl) (by kernel_rfl) (fun _ _ _ h => h) ?_ ?_ hHeld ?_; rotate_left; (focus rfl); (focus (intro wq hSq; obtain sq0 := hSq; (first | (go_simp; done) | (go_simp; with_reducible rfl)))))
                try simp only [Act.put, List.setIfInBounds_toArray, List.set_cons_zero, List.set_cons_succ]
                refine wpAnyH_done (by kernel_rfl) ?_ _
                go_wp2
                go_roundw
                case rel => exact ⟨i + 1, by go_num, by omega, by rw [← HTZ.out, ← HTF.out, HCN.out, ← HSK.out]; exact G2.out⟩
                case measure => simp [intOf]; omega
          · have hin : i = ns + 1 := by omega
            subst hin
            rw [show cnt k (ns + 1) = ns by rw [cnt, if_neg (by omega)]; omega, show (ins s k m).take (ns + 1) = ins s k m from List.take_of_length_le (by have := hol.out; have := Ls.out; omega), show (skip k ns).take ns = skip k ns from List.take_of_length_le (by rw [skip_length]; omega)] at hS
            obtain ⟨gz, cz, hv, _⟩ := (hS.ownS 0 rfl).own (by omega)
            subst hv
            obtain ⟨gf, cf, hv, _⟩ := (hS.ownS 1 rfl).own (by omega)
            subst hv
            obtain ⟨Aa, ca, hv, _, _, _⟩ := (hS.ownS 2 rfl).form
            subst hv
            have H := Lib.hid hS
            clear hS
            have hrt : tenRight s dt = true := by have := Lt.out; have h2 := Sh.size_bd s; simp only [tenRight, Rs.out, Bool.true_and, decide_eq_true_eq]; omega
            have HRT := Lib.hid hrt
            clear hrt
            cases hro : Sh.right (ins s k m) with
            | false =>
              have HE := Lib.hid (spR_shape (s := s) (d := dt) (o := ins s k m) (a := skip k ns) (by rw [hro]; simp))
              have HRO := Lib.hid hro
              clear hro
              have t0 := H.out.cell 4 0 rfl rfl
              have t1 := H.out.cell 4 1 rfl rfl
              have C2 := axSpread_any (co := co) (ca := ca) (ten_mk (H.out.ownInts 5 rfl).2.2 (H.out.ownInts 5 rfl).2.1 (H.out.ownInts 6 rfl).2.2 (H.out.ownInts 6 rfl).2.1) ((H.out.ownInts 3 rfl).2.2) ((H.out.ownInts 2 rfl).2.2)
              rw [HE.out] at C2
              go_wp2_with fail
              refine C2.mono ?_; rintro e2 w2 ⟨⟨u, rfl, hu⟩, hb⟩
              obtain ⟨Su, nu, cu, Du, mu, du, rfl, _, _, _, _, _, h5⟩ := H.out.addTen hb hu
              have h6 := h5.allocBox w2.heap.size 25 [.slice Su nu cu, .slice Du mu du] rfl
              clear C2 hu hb h5 t0 t1
              go_upto_region 16 with fail
              generalize w2.alloc (.cells #[.slice Su nu cu, .slice Du mu du] 25) = v2 at *
              generalize w2.heap.size = gu at *
              replace H := Lib.hid h6
              clear h6
              have CR := refRight_any (c := co) ((H.out.ownInts 6 rfl).2.2)
              rw [HRO.out] at CR
              go_wp2_with fail
              refine CR.mono ?_; rintro e5 w5 ⟨rfl, rfl⟩
              go_wp2_with fail
              refine (l5known_any _).mono ?_; rintro e9 w9 ⟨rfl, hb⟩
              replace H := Lib.hid (H.out.below hb)
              clear hb CR
              go_wp2
              go_ret
              exact ⟨rfl, H.out.base⟩
            | true =>
              have HE := Lib.hid (spR_ok (s := s) (d := dt) (o := ins s k m) (a := skip k ns) (by rw [HRT.out, hro]; rfl) (by have := spread_ok (s := s) (k := k) (m : Int) (by have := Ls.out; omega); rwa [Ls.out] at this))
              have HRO := Lib.hid hro
              clear hro
              have t0 := H.out.cell 4 0 rfl rfl
              have t1 := H.out.cell 4 1 rfl rfl
              have C3 := axSpread_any (co := co) (ca := ca) (ten_mk (H.out.ownInts 5 rfl).2.2 (H.out.ownInts 5 rfl).2.1 (H.out.ownInts 6 rfl).2.2 (H.out.ownInts 6 rfl).2.1) ((H.out.ownInts 3 rfl).2.2) ((H.out.ownInts 2 rfl).2.2)
              rw [HE.out] at C3
              go_wp2_with fail
              refine C3.mono ?_; rintro e3 w3 ⟨⟨u, rfl, hu⟩, hb⟩
              obtain ⟨Su, nu, cu, Du, mu, du, rfl, _, _, _, _, _, h5⟩ := H.out.addTen hb hu
              have h6 := h5.allocBox w3.heap.size 25 [.slice Su nu cu, .slice Du mu du] rfl
              clear C3 hu hb h5 t0 t1
              go_upto_region 16 with fail
              generalize w3.alloc (.cells #[.slice Su nu cu, .slice Du mu du] 25) = v3 at *
              generalize w3.heap.size = gu at *
              replace H := Lib.hid h6
              clear h6
              have CR := refRight_any (c := co) ((H.out.ownInts 6 rfl).2.2)
              rw [HRO.out] at CR
              go_wp2_with fail
              refine CR.mono ?_; rintro e5 w5 ⟨rfl, rfl⟩
              clear CR
              have hlk : (ins s k m)[k]? = some (m : Int) := by rw [ins_at (by have := Ls.out; omega), if_neg (by omega), if_pos rfl]
              have hcz := (H.out.own 3 rfl).cell hlk
              have hfz := (H.out.own 3 rfl).frozen k
              have h7 := H.out.store 3 k (x := 1) ⟨by omega, by omega⟩ rfl
              rw [ins_set (by have := Ls.out; omega)] at h7
              go_upto_region 19 with fail
              generalize v3.setCell ⟨gz, k, none⟩ (.int .i64 1) = v4 at *
              clear hcz hfz hlk
              replace H := Lib.hid h7
              clear h7
              have hz0 : (List.replicate (ns + 1) 0 : List Int).set k 0 = List.replicate (ns + 1) 0 := set_same_ (by rw [List.getElem?_replicate, if_pos (by omega)])
              go_wp2_with fail
              go_loopw [19] (fun kv wr => ∃ (j : Nat) (c : Int), kv = .int .i64 j ∧ j ≤ m ∧ Sep w wr [.box gu 25 [.slice Su nu cu, .slice Du mu du], .own 3 (.slice Su nu cu) nu (ins s k m), .own 2 (.slice Du mu du) mu (spD s dt (ins s k m) (skip k ns)), .own 3 (.slice (some ⟨gz, 0, none⟩) (ns + 1) cz) (ns + 1) (ins s k 1), .own 3 (.slice (some ⟨gf, 0, none⟩) (ns + 1) cf) (ns + 1) ((List.replicate (ns + 1) 0 : List Int).set k c), .own 3 (.slice Aa ns ca) ns (skip k ns), .own 3 (.slice Ao (ns + 1) co) (ns + 1) (ins s k m), .box gt 25 [.slice St nt kt, .slice Dt mt jt], .own 3 (.slice St nt kt) nt s, .own 2 (.slice Dt mt jt) mt dt, .own 3 (.slice As ns cs) ns s, .tape w.heap.size]) (fun kv _ => m - (intOf kv).toNat)
              case atStart => exact ⟨0, 0, rfl, by omega, by rw [hz0]; exact H.out⟩
              case round =>
                clear H hz0
                obtain ⟨j, c, rfl, hj, hS⟩ := hrel
                by_cases hjm : j < m
                · have H := Lib.hid hS
                  clear hS
                  have hck : ((List.replicate (ns + 1) 0 : List Int).set k c)[k]? = some c := by rw [List.getElem?_set, if_pos rfl, if_pos (by simp; omega)]
                  have hcf := (H.out.own 4 rfl).cell hck
                  have hff := (H.out.own 4 rfl).frozen k
                  have h7 := H.out.store 4 k (x := (j : Int)) ⟨by omega, by omega⟩ rfl
                  rw [List.set_set] at h7
                  go_upto_region 23 with fail
                  generalize wr.setCell ⟨gf, k, none⟩ (.int .i64 j) = v5 at *
                  clear hcf hff hck
                  replace H := Lib.hid h7
                  clear h7
                  have HE2 := Lib.hid (spread_cut (k := k) (m := (m : Int)) (i := (j : Int)) HRT.out (by have := Ls.out; omega) (by have := Ls.out; omega) HRO.out (by omega) (by omega)).2
                  rw [Ls.out] at HE2
                  have u0 := H.out.cell 0 0 rfl rfl
                  have u1 := H.out.cell 0 1 rfl rfl
                  have C4 := axSlice_any (cf := cf) (cz := cz) (ten_mk (H.out.ownInts 1 rfl).2.2 (H.out.ownInts 1 rfl).2.1 (H.out.ownInts 2 rfl).2.2 (H.out.ownInts 2 rfl).2.1) ((H.out.ownInts 4 rfl).2.2) ((H.out.ownInts 3 rfl).2.2)
                  rw [HE2.out] at C4
                  go_wp2_with fail
                  refine C4.mono ?_; rintro e4 w4 ⟨⟨u, rfl, hu⟩, hb⟩
                  obtain ⟨Sw, nw, cw, Dw, mw, dw, rfl, _, _, _, _, _, h5⟩ := H.out.addTen hb hu
                  have h6 := h5.allocBox w4.heap.size 25 [.slice Sw nw cw, .slice Dw mw dw] rfl
                  clear C4 hu hb h5 u0 u1
                  go_upto_region 24 with fail
                  generalize w4.alloc (.cells #[.slice Sw nw cw, .slice Dw mw dw] 25) = v4 at *
                  generalize w4.heap.size = gw at *
                  replace H := Lib.hid h6
                  clear h6
                  have Iw := (H.out.ownInts 2 rfl).2.2
                  have It := (H.out.ownInts 12 rfl).2.2
                  have hmw : mt = mw := It.len.symm.trans Iw.len
                  have w1 := H.out.cell 0 1 rfl rfl
                  have t1 := H.out.cell 10 1 rfl rfl
                  subst hmw
                  have hmt := It.le
                  go_wp2_with fail
                  go_loopw [134] (fun kv wr2 => ∃ i : Nat, kv = .int .i64 i ∧ i ≤ mt ∧ ∃ q, wr2 = v4.drewN q) (fun kv _ => mt - (intOf kv).toNat)
                  case atStart => exact ⟨0, rfl, by omega, 0, rfl⟩
                  case round =>
                    obtain ⟨i, rfl, hi, q, rfl⟩ := hrel
                    by_cases hlm : i < mt
                    · obtain ⟨aw, x, hA, _, hx, hcx, _⟩ := Iw.at_ (k := i) hlm
                      obtain ⟨at_, y, hB, _, hy, hcy, _⟩ := It.at_ (k := i) hlm
                      subst hA
                      subst hB
                      rw [hx] at hy
                      injection hy with hy
                      subst hy
                      clear hx
                      have dx : (x != x) = false := by simp
                      go_wp2_with fail
                      go_quiet (fail)
                      go_wp2
                      go_roundw
                      case rel => exact ⟨i + 1, by go_num, by omega, _, rfl⟩
                      case measure => simp [intOf]; omega
                    · have hin : mt = i := by omega
                      subst hin
                      clear w1 t1 Iw It
                      go_wp2
                      go_roundw
                      case rel => exact ⟨j + 1, (j : Int), by go_num, by omega, (H.out.drewN q).sub [3, 4, 5, 6, 7, 8, 9, 10, 11, 12, 13, 14] rfl (by decide)⟩
                      case measure => simp [intOf]; omega
                · have hjn : m = j := by omega
                  subst hjn
                  have H := Lib.hid hS
                  clear hS
                  go_wp2_with fail
                  refine (l5known_any _).mono ?_; rintro e9 w9 ⟨rfl, hb⟩
                  replace H := Lib.hid (H.out.below hb)
                  clear hb
                  go_wp2
                  go_ret
                  exact ⟨rfl, H.out.base⟩
end Go.Proofs.Ythgpiimagbcmbaa
