/- The walk of the law FoldParts. -/
import Derived.Test.YtgdgpggicgfddaaL6Same
import Derived.Test.YtgdgpggicgfddaaFdC
import Derived.Test.YtgdgpggicgfddaaRef5
import Derived.Test.YtgdgpggicgfddaaSepC
import Derived.Test.YtgdgpggicgfddaaKitReg
import Derived.Test.YtgdgpggicgfddaaBox
namespace Go.Proofs.Ytgdgpggicgfddaa
open Go.RowKit

theorem rises_of1 {n : Nat} (h : 2 ≤ n) : Rises [1] n := by
  intro k x hx
  cases k with
  | zero => simp at hx; subst hx; exact ⟨by omega, by omega, fun z hz => by omega⟩
  | succ k => simp at hx
theorem rises_of0 {n : Nat} (h : 1 ≤ n) : Rises [0] n := by
  intro k x hx
  cases k with
  | zero => simp at hx; subst hx; exact ⟨by omega, by omega, fun z hz => by omega⟩
  | succ k => simp at hx
theorem rises_of01 {n : Nat} (h : 2 ≤ n) : Rises [0, 1] n := by
  intro k x hx
  match k with
  | 0 => simp at hx; subst hx; exact ⟨by omega, by omega, fun z hz => by omega⟩
  | 1 => simp at hx; subst hx; exact ⟨by omega, by omega, fun z _ hz => by simp at hz; omega⟩
  | k + 2 => simp at hx
theorem rights {r : List Int} (h : r.length ≤ 1) (hd : ∀ x ∈ r, 0 ≤ x ∧ x ≤ 7) : Sh.right r = true ∧ Sh.right (3 :: r) = true ∧ Sh.right (3 :: 4 :: r) = true ∧ ∃ M : Nat, Sh.pd r = M := by
  match r, h, hd with
  | [], _, _ => exact ⟨by decide, by decide, by decide, 1, rfl⟩
  | [m], _, hd =>
    have := hd m (by simp)
    refine ⟨Sh.right_iff.2 ⟨by simp, fun x hx => by simp at hx; omega, by simp [Sh.pr]; omega⟩, Sh.right_iff.2 ⟨by simp, fun x hx => by simp at hx; omega, by simp [Sh.pr]; omega⟩, Sh.right_iff.2 ⟨by simp, fun x hx => by simp at hx; omega, by simp [Sh.pr]; omega⟩, m.toNat, by simp [Sh.pd]; omega⟩
  | _ :: _ :: _, h, _ => simp at h
set_option maxRecDepth 100000 in
set_option maxHeartbeats 12800000 in
theorem fparts_walk {w : World} {A0 : Option Addr} {n0 c0 : Nat} {x0 : List Int} (how : Int) (h0 : Ints w A0 n0 x0) :
    Calls Try.prog 5 #[.slice A0 n0 c0, .int .i64 how] w fun e w' => e = .returned (.bool true) ∧ Below w.heap.size w w' := by
  have q0 := Below.refl w.heap.size w
  have hT := tape_new (c := c0) (h0.below q0)
  have hz1 : (w).heap.size = w.heap.size := by simp
  skip
  have s1 := Sep.startTape hz1 hT
  clear hT
  go_enter Try.func5, Try.ntmps5
  go_upto_region 2 with fail
  generalize (w).alloc (.cells #[.slice A0 n0 c0, .int .i64 0] 33) = v at *
  have HQ := Lib.hid q0
  have HZ1 := Lib.hid hz1
  have H := Lib.hid s1
  skip
  clear s1 hz1 q0 h0
  go_cut [6] (fun q wx => ∃ k : Int, q = .int .i64 k ∧ howOk k = true ∧ v = wx)
  case first =>
    have e3 := and3 how
    have q1 := Int.emod_nonneg how (b := 4) (by omega)
    have q2 := Int.emod_lt_of_pos how (b := 4) (by omega)
    go_wp2_with fail
    go_meet
    exact ⟨1 + how % 4, rfl, howOk_iff.2 ⟨by omega, by omega⟩, rfl⟩
  case rest =>
    obtain ⟨k, rfl, hk, rfl⟩ := hcut
    have HK := Lib.hid hk
    clear hk
    have H5 := Lib.hid (H.out.lit 3 #[.int .i64 3, .int .i64 4] [3, 4] 2 v.heap.size rfl rfl rfl)
    go_wp2_with fail
    refine (tapeShape_any (H5.out.tape 1 rfl)).mono ?_; rintro e2 w2 ⟨⟨v2, n2, s2, rfl, hO, hn2, hsh⟩, hR⟩
    obtain ⟨A2, c2, rfl, hc2, _, _⟩ := hO.form
    have hl2 := hO.len
    have H6 := Lib.hid (H5.out.readOwn 1 rfl hR hO)
    have HSH := Lib.hid hsh
    have HL2 := Lib.hid hl2
    clear hO hR hsh hl2 H5
    go_wp2_with (at_builtin; refine wpList_appends_sep rfl (.tmp 34) (.tmp 36) 22 3 rfl Try.underlying22 Try.infoInt H6.out 1 rfl rfl A2 n2 c2 s2 rfl ((H6.out.ownInts 0 rfl).2.2) ?c1 ?_)
    case c1 => omega
    intro v3 w3 h3
    obtain ⟨A3, c3, hv, hc3, _, _⟩ := (h3.ownS 1 rfl).form
    subst hv
    replace H := Lib.hid h3.tail_
    clear h3 H6
    go_upto_if 40 with fail
    go_cut [7] (fun z wx => ∃ (As : Option Addr) (ns cs : Nat) (r : List Int), z = .slice As ns cs ∧ r.length ≤ 1 ∧ (∀ x ∈ r, 0 ≤ x ∧ x ≤ 7) ∧ Sep w wx [.own 3 (.slice As ns cs) ns (3 :: 4 :: r), .tape w.heap.size])
    case first =>
      by_cases h4 : 2 + n2 ≤ 3
      · go_wp2_with fail
        go_meet
        exact ⟨A3, 2 + n2, c3, s2, rfl, by have := HL2.out; omega, HSH.out, H.out⟩
      · go_wp2_with fail
        go_meet
        exact ⟨A3, 3, c3, s2.take 1, rfl, by simp; omega, fun x hx => HSH.out x (List.mem_of_mem_take hx), H.out.takeOwn 0 rfl (by omega) (by omega)⟩
    case rest =>
      obtain ⟨As, ns, cs, r, rfl, hrl, hrd, hS⟩ := hcut
      replace H := Lib.hid hS
      clear hS hc3 hc2 hn2
      have Ls := Lib.hid ((H.out.ownInts 0 rfl).2.2).len
      have hns : 2 ≤ ns ∧ ns ≤ 3 := by have := Ls.out; simp at this; omega
      obtain ⟨hn1, hn3⟩ := hns
      obtain ⟨hr0, hr3, hrs, M, hM⟩ := rights hrl hrd
      have HR0 := Lib.hid hr0
      have HR3 := Lib.hid hr3
      have HRS := Lib.hid hrs
      have HM := Lib.hid hM
      clear hr0 hr3 hrs hM hrd hrl
      have C0 := tapeTensor_any (c := cs) (H.out.tape 1 rfl) ((H.out.ownInts 0 rfl).2.2) (by omega)
      go_wp2_with fail
      refine C0.mono ?_; rintro e0 w0 ⟨⟨v, dt, rfl, hOT, hdl⟩, hR⟩
      obtain ⟨vs, vd, nt, mt, rfl, ho1, ho2⟩ := hOT
      obtain ⟨St, kt, rfl, _, _, _⟩ := ho1.form
      obtain ⟨Dt, jt, rfl, _, _, _⟩ := ho2.form
      have HFD := Lib.hid ho2.2.1
      have h5 := H.out.readOwn2 1 rfl hR ho1 ho2 (Ne.symm ty_ne.1)
      have h6 := h5.allocBox w0.heap.size 26 [.slice St nt kt, .slice Dt mt jt] rfl
      have hrt : tenRight (3 :: 4 :: r) dt = true := by have h2 := Sh.size_bd (3 :: 4 :: r); simp only [tenRight, HRS.out, Bool.true_and, decide_eq_true_eq]; omega
      have HRT := Lib.hid hrt
      clear C0 ho1 ho2 h5 hR hdl hrt
      go_upto_region 7 with fail
      generalize w0.alloc (.cells #[.slice St nt kt, .slice Dt mt jt] 26) = vA at *
      generalize w0.heap.size = gt at *
      replace H := Lib.hid h6
      clear h6
      have HE1 := Lib.hid (show foldR k (3 :: 4 :: r) dt [1] = (0, 3 :: r, foldD k (3 :: 4 :: r) dt [1]) from by rw [foldR_ok HK.out HRT.out (rises_of1 (by simp)) (by rw [rest1]; exact HR3.out), rest1])
      have t0 := H.out.cell 0 0 rfl rfl
      have t1 := H.out.cell 0 1 rfl rfl
      replace H := Lib.hid (H.out.lit 3 #[.int .i64 1] [1] 1 vA.heap.size rfl rfl rfl)
      have C1 := fdDo_any (ca := 1) k (ten_mk (H.out.ownInts 2 rfl).2.2 (H.out.ownInts 2 rfl).2.1 (H.out.ownInts 3 rfl).2.2 (H.out.ownInts 3 rfl).2.1) ((H.out.ownInts 0 rfl).2.2)
      rw [HE1.out] at C1
      go_wp2_with fail
      refine C1.mono ?_; rintro e1 w1 ⟨⟨u, rfl, hu⟩, hb⟩
      obtain ⟨Sa, na, ca, Da, ma, da, rfl, _, _, _, _, _, h5⟩ := H.out.addTen hb hu
      have h6 := h5.allocBox w1.heap.size 26 [.slice Sa na ca, .slice Da ma da] rfl
      clear C1 hu hb h5 t0 t1
      go_upto_region 8 with fail
      generalize w1.alloc (.cells #[.slice Sa na ca, .slice Da ma da] 26) = va at *
      generalize w1.heap.size = ga at *
      replace H := Lib.hid h6
      clear h6
      replace H := Lib.hid (H.out.sub (l' := [.box ga 26 [.slice Sa na ca, .slice Da ma da], .own 3 (.slice Sa na ca) na (3 :: r), .own 2 (.slice Da ma da) ma (foldD k (3 :: 4 :: r) dt [1]), .box gt 26 [.slice St nt kt, .slice Dt mt jt], .own 3 (.slice St nt kt) nt (3 :: 4 :: r), .own 2 (.slice Dt mt jt) mt dt, .own 3 (.slice As ns cs) ns (3 :: 4 :: r), .tape w.heap.size]) [0, 1, 2, 4, 5, 6, 7, 8] rfl (by decide))
      have HDL := Lib.hid (show dt.length = 12 * M by have h1 := len_right HRT.out; rw [size_of_pd HRS.out, Sh.pd, Sh.pd, HM.out] at h1; omega)
      have HE2 := Lib.hid (show foldR k (3 :: r) (foldD k (3 :: 4 :: r) dt [1]) [0] = (0, r, foldD k (3 :: 4 :: r) dt [0, 1]) from by
        have h1 := fold_right (how := k) (s := (3 :: 4 :: r)) (d := dt) (axes := [1]) (by rw [rest1]; exact HR3.out)
        rw [rest1] at h1
        rw [foldR_ok HK.out h1 (rises_of0 (by simp)) (by rw [rest0]; exact HR0.out), rest0, parts_eq HK.out HRS.out HR3.out HR0.out HM.out HDL.out HFD.out])
      have a0 := H.out.cell 0 0 rfl rfl
      have a1 := H.out.cell 0 1 rfl rfl
      replace H := Lib.hid (H.out.lit 3 #[.int .i64 0] [0] 1 va.heap.size rfl rfl rfl)
      have C2 := fdDo_any (ca := 1) k (ten_mk (H.out.ownInts 2 rfl).2.2 (H.out.ownInts 2 rfl).2.1 (H.out.ownInts 3 rfl).2.2 (H.out.ownInts 3 rfl).2.1) ((H.out.ownInts 0 rfl).2.2)
      rw [HE2.out] at C2
      go_wp2_with fail
      refine C2.mono ?_; rintro e2 w2 ⟨⟨u, rfl, hu⟩, hb⟩
      obtain ⟨Sb, nb, cb, Db, mb, db, rfl, _, _, _, _, _, h5⟩ := H.out.addTen hb hu
      have h6 := h5.allocBox w2.heap.size 26 [.slice Sb nb cb, .slice Db mb db] rfl
      clear C2 hu hb h5 a0 a1
      go_upto_region 9 with fail
      generalize w2.alloc (.cells #[.slice Sb nb cb, .slice Db mb db] 26) = vb at *
      generalize w2.heap.size = gb at *
      replace H := Lib.hid h6
      clear h6
      replace H := Lib.hid (H.out.sub (l' := [.box gb 26 [.slice Sb nb cb, .slice Db mb db], .own 3 (.slice Sb nb cb) nb (r), .own 2 (.slice Db mb db) mb (foldD k (3 :: 4 :: r) dt [0, 1]), .box ga 26 [.slice Sa na ca, .slice Da ma da], .own 3 (.slice Sa na ca) na (3 :: r), .own 2 (.slice Da ma da) ma (foldD k (3 :: 4 :: r) dt [1]), .box gt 26 [.slice St nt kt, .slice Dt mt jt], .own 3 (.slice St nt kt) nt (3 :: 4 :: r), .own 2 (.slice Dt mt jt) mt dt, .own 3 (.slice As ns cs) ns (3 :: 4 :: r), .tape w.heap.size]) [0, 1, 2, 4, 5, 6, 7, 8, 9, 10, 11] rfl (by decide))
      have HE3 := Lib.hid (show foldR k (3 :: 4 :: r) dt [0, 1] = (0, r, foldD k (3 :: 4 :: r) dt [0, 1]) from by rw [foldR_ok HK.out HRT.out (rises_of01 (by simp)) (by rw [rest01]; exact HR0.out), rest01])
      have t0 := H.out.cell 6 0 rfl rfl
      have t1 := H.out.cell 6 1 rfl rfl
      replace H := Lib.hid (H.out.lit 3 #[.int .i64 0, .int .i64 1] [0, 1] 2 vb.heap.size rfl rfl rfl)
      have C3 := fdDo_any (ca := 2) k (ten_mk (H.out.ownInts 8 rfl).2.2 (H.out.ownInts 8 rfl).2.1 (H.out.ownInts 9 rfl).2.2 (H.out.ownInts 9 rfl).2.1) ((H.out.ownInts 0 rfl).2.2)
      rw [HE3.out] at C3
      go_wp2_with fail
      refine C3.mono ?_; rintro e3 w3 ⟨⟨u, rfl, hu⟩, hb⟩
      obtain ⟨Sc, nc, cc, Dc, mc, dc, rfl, _, _, _, _, _, h5⟩ := H.out.addTen hb hu
      have h6 := h5.allocBox w3.heap.size 26 [.slice Sc nc cc, .slice Dc mc dc] rfl
      clear C3 hu hb h5 t0 t1
      go_upto_region 10 with fail
      generalize w3.alloc (.cells #[.slice Sc nc cc, .slice Dc mc dc] 26) = vc at *
      generalize w3.heap.size = gc at *
      replace H := Lib.hid h6
      clear h6
      replace H := Lib.hid (H.out.sub (l' := [.box gc 26 [.slice Sc nc cc, .slice Dc mc dc], .own 3 (.slice Sc nc cc) nc (r), .own 2 (.slice Dc mc dc) mc (foldD k (3 :: 4 :: r) dt [0, 1]), .box gb 26 [.slice Sb nb cb, .slice Db mb db], .own 3 (.slice Sb nb cb) nb (r), .own 2 (.slice Db mb db) mb (foldD k (3 :: 4 :: r) dt [0, 1]), .box ga 26 [.slice Sa na ca, .slice Da ma da], .own 3 (.slice Sa na ca) na (3 :: r), .own 2 (.slice Da ma da) ma (foldD k (3 :: 4 :: r) dt [1]), .box gt 26 [.slice St nt kt, .slice Dt mt jt], .own 3 (.slice St nt kt) nt (3 :: 4 :: r), .own 2 (.slice Dt mt jt) mt dt, .own 3 (.slice As ns cs) ns (3 :: 4 :: r), .tape w.heap.size]) [0, 1, 2, 4, 5, 6, 7, 8, 9, 10, 11, 12, 13, 14] rfl (by decide))
      have b0 := H.out.cell 3 0 rfl rfl
      have b1 := H.out.cell 3 1 rfl rfl
      have c0 := H.out.cell 0 0 rfl rfl
      have c1 := H.out.cell 0 1 rfl rfl
      have C4 := refSame_eq (ten_mk (H.out.ownInts 4 rfl).2.2 (H.out.ownInts 4 rfl).2.1 (H.out.ownInts 5 rfl).2.2 (H.out.ownInts 5 rfl).2.1) (ten_mk (H.out.ownInts 1 rfl).2.2 (H.out.ownInts 1 rfl).2.1 (H.out.ownInts 2 rfl).2.2 (H.out.ownInts 2 rfl).2.1)
      go_wp2_with fail
      refine C4.mono ?_; rintro e4 w4 ⟨rfl, hb⟩
      replace H := Lib.hid (H.out.below hb)
      clear C4 hb b0 b1 c0 c1
      have hm := run_make_noughts Try.underlying22 Try.infoInt (n := ns) (by omega)
      have h3 := H.out.noughts 3 ns (by omega)
      go_upto_region 13 with fail
      generalize w4.alloc (.cells (noughts ns) 3) = vz at *
      generalize w4.heap.size = gz at *
      replace H := Lib.hid h3
      clear h3
      go_cut [16, 17, 18] (fun a b c wx => ∃ (v1 v2 : Value) (g3 : Nat), a = v1 ∧ b = v2 ∧ c = .slice (some ⟨g3, 0, none⟩) ns ns ∧ Sep w wx (.own 3 v1 ns (3 :: 4 :: r) :: .own 3 v2 ns (3 :: 4 :: r) :: .own 3 (.slice (some ⟨g3, 0, none⟩) ns ns) ns (List.replicate ns 0) :: [.own 3 (.slice (some ⟨gz, 0, none⟩) ns ns) ns (List.replicate ns 0), .box gc 26 [.slice Sc nc cc, .slice Dc mc dc], .own 3 (.slice Sc nc cc) nc (r), .own 2 (.slice Dc mc dc) mc (foldD k (3 :: 4 :: r) dt [0, 1]), .box gb 26 [.slice Sb nb cb, .slice Db mb db], .own 3 (.slice Sb nb cb) nb (r), .own 2 (.slice Db mb db) mb (foldD k (3 :: 4 :: r) dt [0, 1]), .box ga 26 [.slice Sa na ca, .slice Da ma da], .own 3 (.slice Sa na ca) na (3 :: r), .own 2 (.slice Da ma da) ma (foldD k (3 :: 4 :: r) dt [1]), .box gt 26 [.slice St nt kt, .slice Dt mt jt], .own 3 (.slice St nt kt) nt (3 :: 4 :: r), .own 2 (.slice Dt mt jt) mt dt, .own 3 (.slice As ns cs) ns (3 :: 4 :: r), .tape w.heap.size]))
      case first =>
        have G0 := Lib.hid H.out.drew
        refine wp_region_held_drew (S := (fun _ => True)) (by kernel_rfl) ?_ (fun hHeld => ?_)
        · trivial
        first | (refine takeU (i := 1) (oi := { dst := some 83, op := Op.move (Operand.tmp 7), type := 22, pos := "law.go:83", after := #[], guard := none }) rfl (by kernel_rfl) (by kernel_rfl) (by kernel_rfl) (fun _ _ _ h => h) ?_ hHeld ?_; (focus rfl)) | (refine takeW (i := 1) (oi := { dst := some 83, op := Op.move (Operand.tmp 7), type := 22, pos := "law.go:83", after := #[], guard := none }) ?_ rfl (by kernel_rfl) (by kernel_rfl) (by kernel_rfl) (fun _ _ _ h => h) ?_ ?_ hHeld ?_; rotate_left; (focus rfl); (focus (intro wq hSq; obtain sq0 := hSq; (first | (go_simp; done) | (go_simp; with_reducible rfl)))))
        try simp only [Act.put, List.setIfInBounds_toArray, List.set_cons_zero, List.set_cons_succ]
        first | (refine takeU (i := 4) (oi := { dst := some 86, op := Op.move (Operand.tmp 7), type := 22, pos := "law.go:83", after := #[], guard := none }) rfl (by kernel_rfl) (by kernel_rfl) (by kernel_rfl) (fun _ _ _ h => h) ?_ hHeld ?_; (focus rfl)) | (refine takeW (i := 4) (oi := { dst := some 86, op := Op.move (Operand.tmp 7), type := 22, pos := "law.go:83", after := #[], guard := none }) ?_ rfl (by kernel_rfl) (by kernel_rfl) (by kernel_rfl) (fun _ _ _ h => h) ?_ ?_ hHeld ?_; rotate_left; (focus rfl); (focus (intro wq hSq; obtain sq0 := hSq; (first | (go_simp; done) | (go_simp; with_reducible rfl)))))
        try simp only [Act.put, List.setIfInBounds_toArray, List.set_cons_zero, List.set_cons_succ]
        first | (refine takeU (i := 6) (oi := { dst := some 88, op := Op.move (Operand.tmp 7), type := 22, pos := "law.go:83", after := #[], guard := none }) rfl (by kernel_rfl) (by kernel_rfl) (by kernel_rfl) (fun _ _ _ h => h) ?_ hHeld ?_; (focus rfl)) | (refine takeW (i := 6) (oi := { dst := some 88, op := Op.move (Operand.tmp 7), type := 22, pos := "law.go:83", after := #[], guard := none }) ?_ rfl (by kernel_rfl) (by kernel_rfl) (by kernel_rfl) (fun _ _ _ h => h) ?_ ?_ hHeld ?_; rotate_left; (focus rfl); (focus (intro wq hSq; obtain sq0 := hSq; (first | (go_simp; done) | (go_simp; with_reducible rfl)))))
        try simp only [Act.put, List.setIfInBounds_toArray, List.set_cons_zero, List.set_cons_succ]
        first | (refine takeU (i := 7) (oi := { dst := some 89, op := Op.call { callee := Callee.builtin Builtin.len, args := #[Operand.tmp 88], argTypes := #[22] }, type := 3, pos := "law.go:83", after := #[{ on := 6, ground := Ground.data }], guard := none }) rfl (by kernel_rfl) (by kernel_rfl) (by kernel_rfl) (fun _ _ _ h => h) ?_ hHeld ?_; (focus rfl)) | (refine takeW (i := 7) (oi := { dst := some 89, op := Op.call { callee := Callee.builtin Builtin.len, args := #[Operand.tmp 88], argTypes := #[22] }, type := 3, pos := "law.go:83", after := #[{ on := 6, ground := Ground.data }], guard := none }) ?_ rfl (by kernel_rfl) (by kernel_rfl) (by kernel_rfl) (fun _ _ _ h => h) ?_ ?_ hHeld ?_; rotate_left; (focus rfl); (focus (intro wq hSq; obtain sq0 := hSq; (first | (go_simp; done) | (go_simp; with_reducible rfl)))))
        try simp only [Act.put, List.setIfInBounds_toArray, List.set_cons_zero, List.set_cons_succ]
        refine wpAnyH_ready (rs := [0, 3, 8]) (by kernel_rfl) (by simp) ?_
        refine (AllReadyH.cons (o := { dst := some 82, op := Op.buildSlice 22 0 #[], type := 22, pos := "law.go:83", after := #[], guard := none }) rfl (fun K hK => ?_) (AllReadyH.cons (o := { dst := some 85, op := Op.buildSlice 22 0 #[], type := 22, pos := "law.go:83", after := #[], guard := none }) rfl (fun K hK => ?_) (AllReadyH.cons (o := { dst := some 90, op := Op.makeSlice 22 (Operand.tmp 89) (Operand.tmp 89), type := 22, pos := "law.go:83", after := #[{ on := 7, ground := Ground.data }, { on := 7, ground := Ground.data }], guard := none }) rfl (fun K hK => ?_) AllReadyH.nil)))
        · as_aux_lemma =>
            go_simp
            try go_wp2_with fail
            refine hK.out _ _ ?_ (fun hHeld2 => ?_)
            · first | assumption | (trivial)
            clear hK K hHeld
            have hHeld := hHeld2; clear hHeld2
            try simp only [Act.put, List.setIfInBounds_toArray, List.set_cons_zero, List.set_cons_succ]
            refine wpAnyH_ready (rs := [2, 3, 8]) (by kernel_rfl) (by simp) ?_
            refine (AllReadyH.cons (o := { dst := some 84, op := Op.call { callee := Callee.builtin Builtin.append, args := #[Operand.tmp 82, Operand.tmp 83], argTypes := #[22, 22] }, type := 22, pos := "law.go:83", after := #[{ on := 0, ground := Ground.data }, { on := 1, ground := Ground.data }], guard := none }) rfl (fun K hK => ?_) (AllReadyH.cons (o := { dst := some 85, op := Op.buildSlice 22 0 #[], type := 22, pos := "law.go:83", after := #[], guard := none }) rfl (fun K hK => ?_) (AllReadyH.cons (o := { dst := some 90, op := Op.makeSlice 22 (Operand.tmp 89) (Operand.tmp 89), type := 22, pos := "law.go:83", after := #[{ on := 7, ground := Ground.data }, { on := 7, ground := Ground.data }], guard := none }) rfl (fun K hK => ?_) AllReadyH.nil)))
            · as_aux_lemma =>
                (have Gx := Lib.hid ((G0.out).lit 3 #[] [] 0 (vz.heap.size) rfl rfl rfl); refine step_appends_sep rfl (.tmp 82) (.tmp 83) 22 3 rfl Try.underlying22 Try.infoInt Gx.out 0 rfl rfl As ns cs (3 :: 4 :: r) rfl ((Gx.out.ownInts 14 rfl).2.2) ?_ ?_; (focus omega); intro x2 y2 h9; have G1 := Lib.hid h9; clear h9 Gx)
                refine hK.out _ _ ?_ (fun hHeld2 => ?_)
                · first | assumption | (trivial)
                clear hK K hHeld
                have hHeld := hHeld2; clear hHeld2
                try simp only [Act.put, List.setIfInBounds_toArray, List.set_cons_zero, List.set_cons_succ]
                refine wpAnyH_ready (rs := [3, 8]) (by kernel_rfl) (by simp) ?_
                refine (AllReadyH.cons (o := { dst := some 85, op := Op.buildSlice 22 0 #[], type := 22, pos := "law.go:83", after := #[], guard := none }) rfl (fun K hK => ?_) (AllReadyH.cons (o := { dst := some 90, op := Op.makeSlice 22 (Operand.tmp 89) (Operand.tmp 89), type := 22, pos := "law.go:83", after := #[{ on := 7, ground := Ground.data }, { on := 7, ground := Ground.data }], guard := none }) rfl (fun K hK => ?_) AllReadyH.nil))
                · go_simp
                  try go_wp2_with fail
                  refine hK.out _ _ ?_ (fun hHeld2 => ?_)
                  · first | assumption | (trivial)
                  clear hK K hHeld
                  have hHeld := hHeld2; clear hHeld2
                  try simp only [Act.put, List.setIfInBounds_toArray, List.set_cons_zero, List.set_cons_succ]
                  refine wpAnyH_ready (rs := [5, 8]) (by kernel_rfl) (by simp) ?_
                  refine (AllReadyH.cons (o := { dst := some 87, op := Op.call { callee := Callee.builtin Builtin.append, args := #[Operand.tmp 85, Operand.tmp 86], argTypes := #[22, 22] }, type := 22, pos := "law.go:83", after := #[{ on := 3, ground := Ground.data }, { on := 4, ground := Ground.data }, { on := 2, ground := Ground.chain }], guard := none }) rfl (fun K hK => ?_) (AllReadyH.cons (o := { dst := some 90, op := Op.makeSlice 22 (Operand.tmp 89) (Operand.tmp 89), type := 22, pos := "law.go:83", after := #[{ on := 7, ground := Ground.data }, { on := 7, ground := Ground.data }], guard := none }) rfl (fun K hK => ?_) AllReadyH.nil))
                  · (have Gx := Lib.hid ((G1.out).lit 3 #[] [] 0 (y2.heap.size) rfl rfl rfl); refine step_appends_sep rfl (.tmp 85) (.tmp 86) 22 3 rfl Try.underlying22 Try.infoInt Gx.out 0 rfl rfl As ns cs (3 :: 4 :: r) rfl ((Gx.out.ownInts 15 rfl).2.2) ?_ ?_; (focus omega); intro x5 y5 h9; have G2 := Lib.hid h9; clear h9 Gx)
                    refine hK.out _ _ ?_ (fun hHeld2 => ?_)
                    · first | assumption | (trivial)
                    clear hK K hHeld
                    have hHeld := hHeld2; clear hHeld2
                    try simp only [Act.put, List.setIfInBounds_toArray, List.set_cons_zero, List.set_cons_succ]
                    first | (refine takeU (i := 9) (oi := { dst := some 16, op := Op.assign (Operand.tmp 84), type := 22, pos := "law.go:83", after := #[{ on := 2, ground := Ground.data }, { on := 5, ground := Ground.chain }, { on := 0, ground := Ground.phase }, { on := 1, ground := Ground.phase }, { on := 2, ground := Ground.phase }, { on := 3, ground := Ground.textOnly Departure.lateStores }, { on := 4, ground := Ground.textOnly Departure.lateStores }, { on := 5, ground := Ground.textOnly Departure.lateStoresUnsure }, { on := 6, ground := Ground.textOnly Departure.lateStores }, { on := 7, ground := Ground.textOnly Departure.lateStoresUnsure }, { on := 8, ground := Ground.textOnly Departure.lateStoresUnsure }], guard := none }) rfl (by kernel_rfl) (by kernel_rfl) (by kernel_rfl) (fun _ _ _ h => h) ?_ hHeld ?_; (focus rfl)) | (refine takeW (i := 9) (oi := { dst := some 16, op := Op.assign (Operand.tmp 84), type := 22, pos := "law.go:83", after := #[{ on := 2, ground := Ground.data }, { on := 5, ground := Ground.chain }, { on := 0, ground := Ground.phase }, { on := 1, ground := Ground.phase }, { on := 2, ground := Ground.phase }, { on := 3, ground := Ground.textOnly Departure.lateStores }, { on := 4, ground := Ground.textOnly Departure.lateStores }, { on := 5, ground := Ground.textOnly Departure.lateStoresUnsure }, { on := 6, ground := Ground.textOnly Departure.lateStores }, { on := 7, ground := Ground.textOnly Departure.lateStoresUnsure }, { on := 8, ground := Ground.textOnly Departure.lateStoresUnsure }], guard := none }) ?_ rfl (by kernel_rfl) (by kernel_rfl) (by kernel_rfl) (fun _ _ _ h => h) ?_ ?_ hHeld ?_; rotate_left; (focus rfl); (focus (intro wq hSq; obtain sq0 := hSq; (first | (go_simp; done) | (go_simp; with_reducible rfl)))))
                    try simp only [Act.put, List.setIfInBounds_toArray, List.set_cons_zero, List.set_cons_succ]
                    first | (refine takeU (i := 10) (oi := { dst := some 17, op := Op.assign (Operand.tmp 87), type := 22, pos := "law.go:83", after := #[{ on := 5, ground := Ground.data }, { on := 9, ground := Ground.chain }, { on := 0, ground := Ground.phase }, { on := 1, ground := Ground.phase }, { on := 2, ground := Ground.phase }, { on := 3, ground := Ground.phase }, { on := 4, ground := Ground.phase }, { on := 5, ground := Ground.phase }, { on := 6, ground := Ground.textOnly Departure.lateStores }, { on := 7, ground := Ground.textOnly Departure.lateStoresUnsure }, { on := 8, ground := Ground.textOnly Departure.lateStoresUnsure }, { on := 9, ground := Ground.phase }], guard := none }) rfl (by kernel_rfl) (by kernel_rfl) (by kernel_rfl) (fun _ _ _ h => h) ?_ hHeld ?_; (focus rfl)) | (refine takeW (i := 10) (oi := { dst := some 17, op := Op.assign (Operand.tmp 87), type := 22, pos := "law.go:83", after := #[{ on := 5, ground := Ground.data }, { on := 9, ground := Ground.chain }, { on := 0, ground := Ground.phase }, { on := 1, ground := Ground.phase }, { on := 2, ground := Ground.phase }, { on := 3, ground := Ground.phase }, { on := 4, ground := Ground.phase }, { on := 5, ground := Ground.phase }, { on := 6, ground := Ground.textOnly Departure.lateStores }, { on := 7, ground := Ground.textOnly Departure.lateStoresUnsure }, { on := 8, ground := Ground.textOnly Departure.lateStoresUnsure }, { on := 9, ground := Ground.phase }], guard := none }) ?_ rfl (by kernel_rfl) (by kernel_rfl) (by kernel_rfl) (fun _ _ _ h => h) ?_ ?_ hHeld ?_; rotate_left; (focus rfl); (focus (intro wq hSq; obtain sq0 := hSq; (first | (go_simp; done) | (go_simp; with_reducible rfl)))))
                    try simp only [Act.put, List.setIfInBounds_toArray, List.set_cons_zero, List.set_cons_succ]
                    refine wpAnyH_ready (rs := [8]) (by kernel_rfl) (by simp) ?_
                    refine (AllReadyH.cons (o := { dst := some 90, op := Op.makeSlice 22 (Operand.tmp 89) (Operand.tmp 89), type := 22, pos := "law.go:83", after := #[{ on := 7, ground := Ground.data }, { on := 7, ground := Ground.data }], guard := none }) rfl (fun K hK => ?_) AllReadyH.nil)
                    have HF := Lib.hid ((((G2.out).noughtsAt 3 ns (y5.heap.size) rfl (by omega)).sub (l' := [.own 3 x2 (0 + ns) ([] ++ (3 :: 4 :: r)), .own 3 x5 (0 + ns) ([] ++ (3 :: 4 :: r)), .own 3 (.slice (some ⟨y5.heap.size, 0, none⟩) ns ns) ns (List.replicate ns 0), .own 3 (.slice (some ⟨gz, 0, none⟩) ns ns) ns (List.replicate ns 0), .box gc 26 [.slice Sc nc cc, .slice Dc mc dc], .own 3 (.slice Sc nc cc) nc (r), .own 2 (.slice Dc mc dc) mc (foldD k (3 :: 4 :: r) dt [0, 1]), .box gb 26 [.slice Sb nb cb, .slice Db mb db], .own 3 (.slice Sb nb cb) nb (r), .own 2 (.slice Db mb db) mb (foldD k (3 :: 4 :: r) dt [0, 1]), .box ga 26 [.slice Sa na ca, .slice Da ma da], .own 3 (.slice Sa na ca) na (3 :: r), .own 2 (.slice Da ma da) ma (foldD k (3 :: 4 :: r) dt [1]), .box gt 26 [.slice St nt kt, .slice Dt mt jt], .own 3 (.slice St nt kt) nt (3 :: 4 :: r), .own 2 (.slice Dt mt jt) mt dt, .own 3 (.slice As ns cs) ns (3 :: 4 :: r), .tape w.heap.size]) [2, 1, 0, 3, 4, 5, 6, 7, 8, 9, 10, 11, 12, 13, 14, 15, 16, 17] rfl (by decide)).recast (l' := .own 3 x2 ns (3 :: 4 :: r) :: .own 3 x5 ns (3 :: 4 :: r) :: .own 3 (.slice (some ⟨y5.heap.size, 0, none⟩) ns ns) ns (List.replicate ns 0) :: [.own 3 (.slice (some ⟨gz, 0, none⟩) ns ns) ns (List.replicate ns 0), .box gc 26 [.slice Sc nc cc, .slice Dc mc dc], .own 3 (.slice Sc nc cc) nc (r), .own 2 (.slice Dc mc dc) mc (foldD k (3 :: 4 :: r) dt [0, 1]), .box gb 26 [.slice Sb nb cb, .slice Db mb db], .own 3 (.slice Sb nb cb) nb (r), .own 2 (.slice Db mb db) mb (foldD k (3 :: 4 :: r) dt [0, 1]), .box ga 26 [.slice Sa na ca, .slice Da ma da], .own 3 (.slice Sa na ca) na (3 :: r), .own 2 (.slice Da ma da) ma (foldD k (3 :: 4 :: r) dt [1]), .box gt 26 [.slice St nt kt, .slice Dt mt jt], .own 3 (.slice St nt kt) nt (3 :: 4 :: r), .own 2 (.slice Dt mt jt) mt dt, .own 3 (.slice As ns cs) ns (3 :: 4 :: r), .tape w.heap.size]) (by simp))
                    go_simp
                    try go_wp2_with fail
                    refine hK.out _ _ ?_ (fun hHeld2 => ?_)
                    · first | assumption | (trivial)
                    clear hK K hHeld
                    have hHeld := hHeld2; clear hHeld2
                    try simp only [Act.put, List.setIfInBounds_toArray, List.set_cons_zero, List.set_cons_succ]
                    first | (refine takeU (i := 11) (oi := { dst := some 18, op := Op.assign (Operand.tmp 90), type := 22, pos := "law.go:83", after := #[{ on := 8, ground := Ground.data }, { on := 10, ground := Ground.chain }, { on := 0, ground := Ground.phase }, { on := 1, ground := Ground.phase }, { on := 2, ground := Ground.phase }, { on := 3, ground := Ground.phase }, { on := 4, ground := Ground.phase }, { on := 5, ground := Ground.phase }, { on := 6, ground := Ground.phase }, { on := 7, ground := Ground.phase }, { on := 8, ground := Ground.phase }, { on := 9, ground := Ground.phase }, { on := 10, ground := Ground.phase }], guard := none }) rfl (by kernel_rfl) (by kernel_rfl) (by kernel_rfl) (fun _ _ _ h => h) ?_ hHeld ?_; (focus rfl)) | (refine takeW (i := 11) (oi := { dst := some 18, op := Op.assign (Operand.tmp 90), type := 22, pos := "law.go:83", after := #[{ on := 8, ground := Ground.data }, { on := 10, ground := Ground.chain }, { on := 0, ground := Ground.phase }, { on := 1, ground := Ground.phase }, { on := 2, ground := Ground.phase }, { on := 3, ground := Ground.phase }, { on := 4, ground := Ground.phase }, { on := 5, ground := Ground.phase }, { on := 6, ground := Ground.phase }, { on := 7, ground := Ground.phase }, { on := 8, ground := Ground.phase }, { on := 9, ground := Ground.phase }, { on := 10, ground := Ground.phase }], guard := none }) ?_ rfl (by kernel_rfl) (by kernel_rfl) (by kernel_rfl) (fun _ _ _ h => h) ?_ ?_ hHeld ?_; rotate_left; (focus rfl); (focus (intro wq hSq; obtain sq0 := hSq; (first | (go_simp; done) | (go_simp; with_reducible rfl)))))
                    try simp only [Act.put, List.setIfInBounds_toArray, List.set_cons_zero, List.set_cons_succ]
                    refine wpAnyH_done (by kernel_rfl) ?_ _
                    go_wp2_with fail
                    go_meet
                    exact ⟨_, _, _, rfl, rfl, rfl, HF.out⟩
                  · go_simp
                    try go_wp2_with fail
                    refine hK.out _ _ ?_ (fun hHeld2 => ?_)
                    · first | assumption | (trivial)
                    clear hK K hHeld
                    have hHeld := hHeld2; clear hHeld2
                    try simp only [Act.put, List.setIfInBounds_toArray, List.set_cons_zero, List.set_cons_succ]
                    refine wpAnyH_ready (rs := [5]) (by kernel_rfl) (by simp) ?_
                    refine (AllReadyH.cons (o := { dst := some 87, op := Op.call { callee := Callee.builtin Builtin.append, args := #[Operand.tmp 85, Operand.tmp 86], argTypes := #[22, 22] }, type := 22, pos := "law.go:83", after := #[{ on := 3, ground := Ground.data }, { on := 4, ground := Ground.data }, { on := 2, ground := Ground.chain }], guard := none }) rfl (fun K hK => ?_) AllReadyH.nil)
                    (have Gx := Lib.hid (((G1.out).lit 3 #[] [] 0 (y2.heap.size) rfl rfl rfl).noughtsAt 3 ns (y2.heap.size + 1) (by simp) (by omega)); refine step_appends_sep rfl (.tmp 85) (.tmp 86) 22 3 rfl Try.underlying22 Try.infoInt Gx.out 1 rfl rfl As ns cs (3 :: 4 :: r) rfl ((Gx.out.ownInts 16 rfl).2.2) ?_ ?_; (focus omega); intro x5 y5 h9; have G2 := Lib.hid h9; clear h9 Gx; have HF := Lib.hid (((G2.out).sub (l' := [.own 3 x2 (0 + ns) ([] ++ (3 :: 4 :: r)), .own 3 x5 (0 + ns) ([] ++ (3 :: 4 :: r)), .own 3 (.slice (some ⟨y2.heap.size + 1, 0, none⟩) ns ns) ns (List.replicate ns 0), .own 3 (.slice (some ⟨gz, 0, none⟩) ns ns) ns (List.replicate ns 0), .box gc 26 [.slice Sc nc cc, .slice Dc mc dc], .own 3 (.slice Sc nc cc) nc (r), .own 2 (.slice Dc mc dc) mc (foldD k (3 :: 4 :: r) dt [0, 1]), .box gb 26 [.slice Sb nb cb, .slice Db mb db], .own 3 (.slice Sb nb cb) nb (r), .own 2 (.slice Db mb db) mb (foldD k (3 :: 4 :: r) dt [0, 1]), .box ga 26 [.slice Sa na ca, .slice Da ma da], .own 3 (.slice Sa na ca) na (3 :: r), .own 2 (.slice Da ma da) ma (foldD k (3 :: 4 :: r) dt [1]), .box gt 26 [.slice St nt kt, .slice Dt mt jt], .own 3 (.slice St nt kt) nt (3 :: 4 :: r), .own 2 (.slice Dt mt jt) mt dt, .own 3 (.slice As ns cs) ns (3 :: 4 :: r), .tape w.heap.size]) [2, 1, 0, 3, 4, 5, 6, 7, 8, 9, 10, 11, 12, 13, 14, 15, 16, 17] rfl (by decide)).recast (l' := .own 3 x2 ns (3 :: 4 :: r) :: .own 3 x5 ns (3 :: 4 :: r) :: .own 3 (.slice (some ⟨y2.heap.size + 1, 0, none⟩) ns ns) ns (List.replicate ns 0) :: [.own 3 (.slice (some ⟨gz, 0, none⟩) ns ns) ns (List.replicate ns 0), .box gc 26 [.slice Sc nc cc, .slice Dc mc dc], .own 3 (.slice Sc nc cc) nc (r), .own 2 (.slice Dc mc dc) mc (foldD k (3 :: 4 :: r) dt [0, 1]), .box gb 26 [.slice Sb nb cb, .slice Db mb db], .own 3 (.slice Sb nb cb) nb (r), .own 2 (.slice Db mb db) mb (foldD k (3 :: 4 :: r) dt [0, 1]), .box ga 26 [.slice Sa na ca, .slice Da ma da], .own 3 (.slice Sa na ca) na (3 :: r), .own 2 (.slice Da ma da) ma (foldD k (3 :: 4 :: r) dt [1]), .box gt 26 [.slice St nt kt, .slice Dt mt jt], .own 3 (.slice St nt kt) nt (3 :: 4 :: r), .own 2 (.slice Dt mt jt) mt dt, .own 3 (.slice As ns cs) ns (3 :: 4 :: r), .tape w.heap.size]) (by simp)))
                    refine hK.out _ _ ?_ (fun hHeld2 => ?_)
                    · first | assumption | (trivial)
                    clear hK K hHeld
                    have hHeld := hHeld2; clear hHeld2
                    try simp only [Act.put, List.setIfInBounds_toArray, List.set_cons_zero, List.set_cons_succ]
                    first | (refine takeU (i := 9) (oi := { dst := some 16, op := Op.assign (Operand.tmp 84), type := 22, pos := "law.go:83", after := #[{ on := 2, ground := Ground.data }, { on := 5, ground := Ground.chain }, { on := 0, ground := Ground.phase }, { on := 1, ground := Ground.phase }, { on := 2, ground := Ground.phase }, { on := 3, ground := Ground.textOnly Departure.lateStores }, { on := 4, ground := Ground.textOnly Departure.lateStores }, { on := 5, ground := Ground.textOnly Departure.lateStoresUnsure }, { on := 6, ground := Ground.textOnly Departure.lateStores }, { on := 7, ground := Ground.textOnly Departure.lateStoresUnsure }, { on := 8, ground := Ground.textOnly Departure.lateStoresUnsure }], guard := none }) rfl (by kernel_rfl) (by kernel_rfl) (by kernel_rfl) (fun _ _ _ h => h) ?_ hHeld ?_; (focus rfl)) | (refine takeW (i := 9) (oi := { dst := some 16, op := Op.assign (Operand.tmp 84), type := 22, pos := "law.go:83", after := #[{ on := 2, ground := Ground.data }, { on := 5, ground := Ground.chain }, { on := 0, ground := Ground.phase }, { on := 1, ground := Ground.phase }, { on := 2, ground := Ground.phase }, { on := 3, ground := Ground.textOnly Departure.lateStores }, { on := 4, ground := Ground.textOnly Departure.lateStores }, { on := 5, ground := Ground.textOnly Departure.lateStoresUnsure }, { on := 6, ground := Ground.textOnly Departure.lateStores }, { on := 7, ground := Ground.textOnly Departure.lateStoresUnsure }, { on := 8, ground := Ground.textOnly Departure.lateStoresUnsure }], guard := none }) ?_ rfl (by kernel_rfl) (by kernel_rfl) (by kernel_rfl) (fun _ _ _ h => h) ?_ ?_ hHeld ?_; rotate_left; (focus rfl); (focus (intro wq hSq; obtain sq0 := hSq; (first | (go_simp; done) | (go_simp; with_reducible rfl)))))
                    try simp only [Act.put, List.setIfInBounds_toArray, List.set_cons_zero, List.set_cons_succ]
                    first | (refine takeU (i := 10) (oi := { dst := some 17, op := Op.assign (Operand.tmp 87), type := 22, pos := "law.go:83", after := #[{ on := 5, ground := Ground.data }, { on := 9, ground := Ground.chain }, { on := 0, ground := Ground.phase }, { on := 1, ground := Ground.phase }, { on := 2, ground := Ground.phase }, { on := 3, ground := Ground.phase }, { on := 4, ground := Ground.phase }, { on := 5, ground := Ground.phase }, { on := 6, ground := Ground.textOnly Departure.lateStores }, { on := 7, ground := Ground.textOnly Departure.lateStoresUnsure }, { on := 8, ground := Ground.textOnly Departure.lateStoresUnsure }, { on := 9, ground := Ground.phase }], guard := none }) rfl (by kernel_rfl) (by kernel_rfl) (by kernel_rfl) (fun _ _ _ h => h) ?_ hHeld ?_; (focus rfl)) | (refine takeW (i := 10) (oi := { dst := some 17, op := Op.assign (Operand.tmp 87), type := 22, pos := "law.go:83", after := #[{ on := 5, ground := Ground.data }, { on := 9, ground := Ground.chain }, { on := 0, ground := Ground.phase }, { on := 1, ground := Ground.phase }, { on := 2, ground := Ground.phase }, { on := 3, ground := Ground.phase }, { on := 4, ground := Ground.phase }, { on := 5, ground := Ground.phase }, { on := 6, ground := Ground.textOnly Departure.lateStores }, { on := 7, ground := Ground.textOnly Departure.lateStoresUnsure }, { on := 8, ground := Ground.textOnly Departure.lateStoresUnsure }, { on := 9, ground := Ground.phase }], guard := none }) ?_ rfl (by kernel_rfl) (by kernel_rfl) (by kernel_rfl) (fun _ _ _ h => h) ?_ ?_ hHeld ?_; rotate_left; (focus rfl); (focus (intro wq hSq; obtain sq0 := hSq; (first | (go_simp; done) | (go_simp; with_reducible rfl)))))
                    try simp only [Act.put, List.setIfInBounds_toArray, List.set_cons_zero, List.set_cons_succ]
                    first | (refine takeU (i := 11) (oi := { dst := some 18, op := Op.assign (Operand.tmp 90), type := 22, pos := "law.go:83", after := #[{ on := 8, ground := Ground.data }, { on := 10, ground := Ground.chain }, { on := 0, ground := Ground.phase }, { on := 1, ground := Ground.phase }, { on := 2, ground := Ground.phase }, { on := 3, ground := Ground.phase }, { on := 4, ground := Ground.phase }, { on := 5, ground := Ground.phase }, { on := 6, ground := Ground.phase }, { on := 7, ground := Ground.phase }, { on := 8, ground := Ground.phase }, { on := 9, ground := Ground.phase }, { on := 10, ground := Ground.phase }], guard := none }) rfl (by kernel_rfl) (by kernel_rfl) (by kernel_rfl) (fun _ _ _ h => h) ?_ hHeld ?_; (focus rfl)) | (refine takeW (i := 11) (oi := { dst := some 18, op := Op.assign (Operand.tmp 90), type := 22, pos := "law.go:83", after := #[{ on := 8, ground := Ground.data }, { on := 10, ground := Ground.chain }, { on := 0, ground := Ground.phase }, { on := 1, ground := Ground.phase }, { on := 2, ground := Ground.phase }, { on := 3, ground := Ground.phase }, { on := 4, ground := Ground.phase }, { on := 5, ground := Ground.phase }, { on := 6, ground := Ground.phase }, { on := 7, ground := Ground.phase }, { on := 8, ground := Ground.phase }, { on := 9, ground := Ground.phase }, { on := 10, ground := Ground.phase }], guard := none }) ?_ rfl (by kernel_rfl) (by kernel_rfl) (by kernel_rfl) (fun _ _ _ h => h) ?_ ?_ hHeld ?_; rotate_left; (focus rfl); (focus (intro wq hSq; obtain sq0 := hSq; (first | (go_simp; done) | (go_simp; with_reducible rfl)))))
                    try simp only [Act.put, List.setIfInBounds_toArray, List.set_cons_zero, List.set_cons_succ]
                    refine wpAnyH_done (by kernel_rfl) ?_ _
                    go_wp2_with fail
                    go_meet
                    exact ⟨_, _, _, rfl, rfl, rfl, HF.out⟩
                · go_simp
                  try go_wp2_with fail
                  refine hK.out _ _ ?_ (fun hHeld2 => ?_)
                  · first | assumption | (trivial)
                  clear hK K hHeld
                  have hHeld := hHeld2; clear hHeld2
                  try simp only [Act.put, List.setIfInBounds_toArray, List.set_cons_zero, List.set_cons_succ]
                  refine wpAnyH_ready (rs := [3]) (by kernel_rfl) (by simp) ?_
                  refine (AllReadyH.cons (o := { dst := some 85, op := Op.buildSlice 22 0 #[], type := 22, pos := "law.go:83", after := #[], guard := none }) rfl (fun K hK => ?_) AllReadyH.nil)
                  go_simp
                  try go_wp2_with fail
                  refine hK.out _ _ ?_ (fun hHeld2 => ?_)
                  · first | assumption | (trivial)
                  clear hK K hHeld
                  have hHeld := hHeld2; clear hHeld2
                  try simp only [Act.put, List.setIfInBounds_toArray, List.set_cons_zero, List.set_cons_succ]
                  refine wpAnyH_ready (rs := [5]) (by kernel_rfl) (by simp) ?_
                  refine (AllReadyH.cons (o := { dst := some 87, op := Op.call { callee := Callee.builtin Builtin.append, args := #[Operand.tmp 85, Operand.tmp 86], argTypes := #[22, 22] }, type := 22, pos := "law.go:83", after := #[{ on := 3, ground := Ground.data }, { on := 4, ground := Ground.data }, { on := 2, ground := Ground.chain }], guard := none }) rfl (fun K hK => ?_) AllReadyH.nil)
                  (have Gx := Lib.hid (((G1.out).noughtsAt 3 ns (y2.heap.size) rfl (by omega)).lit 3 #[] [] 0 (y2.heap.size + 1) (by simp) rfl rfl); refine step_appends_sep rfl (.tmp 85) (.tmp 86) 22 3 rfl Try.underlying22 Try.infoInt Gx.out 0 rfl rfl As ns cs (3 :: 4 :: r) rfl ((Gx.out.ownInts 16 rfl).2.2) ?_ ?_; (focus omega); intro x5 y5 h9; have G2 := Lib.hid h9; clear h9 Gx; have HF := Lib.hid (((G2.out).sub (l' := [.own 3 x2 (0 + ns) ([] ++ (3 :: 4 :: r)), .own 3 x5 (0 + ns) ([] ++ (3 :: 4 :: r)), .own 3 (.slice (some ⟨y2.heap.size, 0, none⟩) ns ns) ns (List.replicate ns 0), .own 3 (.slice (some ⟨gz, 0, none⟩) ns ns) ns (List.replicate ns 0), .box gc 26 [.slice Sc nc cc, .slice Dc mc dc], .own 3 (.slice Sc nc cc) nc (r), .own 2 (.slice Dc mc dc) mc (foldD k (3 :: 4 :: r) dt [0, 1]), .box gb 26 [.slice Sb nb cb, .slice Db mb db], .own 3 (.slice Sb nb cb) nb (r), .own 2 (.slice Db mb db) mb (foldD k (3 :: 4 :: r) dt [0, 1]), .box ga 26 [.slice Sa na ca, .slice Da ma da], .own 3 (.slice Sa na ca) na (3 :: r), .own 2 (.slice Da ma da) ma (foldD k (3 :: 4 :: r) dt [1]), .box gt 26 [.slice St nt kt, .slice Dt mt jt], .own 3 (.slice St nt kt) nt (3 :: 4 :: r), .own 2 (.slice Dt mt jt) mt dt, .own 3 (.slice As ns cs) ns (3 :: 4 :: r), .tape w.heap.size]) [2, 0, 1, 3, 4, 5, 6, 7, 8, 9, 10, 11, 12, 13, 14, 15, 16, 17] rfl (by decide)).recast (l' := .own 3 x2 ns (3 :: 4 :: r) :: .own 3 x5 ns (3 :: 4 :: r) :: .own 3 (.slice (some ⟨y2.heap.size, 0, none⟩) ns ns) ns (List.replicate ns 0) :: [.own 3 (.slice (some ⟨gz, 0, none⟩) ns ns) ns (List.replicate ns 0), .box gc 26 [.slice Sc nc cc, .slice Dc mc dc], .own 3 (.slice Sc nc cc) nc (r), .own 2 (.slice Dc mc dc) mc (foldD k (3 :: 4 :: r) dt [0, 1]), .box gb 26 [.slice Sb nb cb, .slice Db mb db], .own 3 (.slice Sb nb cb) nb (r), .own 2 (.slice Db mb db) mb (foldD k (3 :: 4 :: r) dt [0, 1]), .box ga 26 [.slice Sa na ca, .slice Da ma da], .own 3 (.slice Sa na ca) na (3 :: r), .own 2 (.slice Da ma da) ma (foldD k (3 :: 4 :: r) dt [1]), .box gt 26 [.slice St nt kt, .slice Dt mt jt], .own 3 (.slice St nt kt) nt (3 :: 4 :: r), .own 2 (.slice Dt mt jt) mt dt, .own 3 (.slice As ns cs) ns (3 :: 4 :: r), .tape w.heap.size]) (by simp)))
                  refine hK.out _ _ ?_ (fun hHeld2 => ?_)
                  · first | assumption | (trivial)
                  clear hK K hHeld
                  have hHeld := hHeld2; clear hHeld2
                  try simp only [Act.put, List.setIfInBounds_toArray, List.set_cons_zero, List.set_cons_succ]
                  first | (refine takeU (i := 9) (oi := { dst := some 16, op := Op.assign (Operand.tmp 84), type := 22, pos := "law.go:83", after := #[{ on := 2, ground := Ground.data }, { on := 5, ground := Ground.chain }, { on := 0, ground := Ground.phase }, { on := 1, ground := Ground.phase }, { on := 2, ground := Ground.phase }, { on := 3, ground := Ground.textOnly Departure.lateStores }, { on := 4, ground := Ground.textOnly Departure.lateStores }, { on := 5, ground := Ground.textOnly Departure.lateStoresUnsure }, { on := 6, ground := Ground.textOnly Departure.lateStores }, { on := 7, ground := Ground.textOnly Departure.lateStoresUnsure }, { on := 8, ground := Ground.textOnly Departure.lateStoresUnsure }], guard := none }) rfl (by kernel_rfl) (by kernel_rfl) (by kernel_rfl) (fun _ _ _ h => h) ?_ hHeld ?_; (focus rfl)) | (refine takeW (i := 9) (oi := { dst := some 16, op := Op.assign (Operand.tmp 84), type := 22, pos := "law.go:83", after := #[{ on := 2, ground := Ground.data }, { on := 5, ground := Ground.chain }, { on := 0, ground := Ground.phase }, { on := 1, ground := Ground.phase }, { on := 2, ground := Ground.phase }, { on := 3, ground := Ground.textOnly Departure.lateStores }, { on := 4, ground := Ground.textOnly Departure.lateStores }, { on := 5, ground := Ground.textOnly Departure.lateStoresUnsure }, { on := 6, ground := Ground.textOnly Departure.lateStores }, { on := 7, ground := Ground.textOnly Departure.lateStoresUnsure }, { on := 8, ground := Ground.textOnly Departure.lateStoresUnsure }], guard := none }) ?_ rfl (by kernel_rfl) (by kernel_rfl) (by kernel_rfl) (fun _ _ _ h => h) ?_ ?_ hHeld ?_; rotate_left; (focus rfl); (focus (intro wq hSq; obtain sq0 := hSq; (first | (go_simp; done) | (go_simp; with_reducible rfl)))))
                  try simp only [Act.put, List.setIfInBounds_toArray, List.set_cons_zero, List.set_cons_succ]
                  first | (refine takeU (i := 10) (oi := { dst := some 17, op := Op.assign (Operand.tmp 87), type := 22, pos := "law.go:83", after := #[{ on := 5, ground := Ground.data }, { on := 9, ground := Ground.chain }, { on := 0, ground := Ground.phase }, { on := 1, ground := Ground.phase }, { on := 2, ground := Ground.phase }, { on := 3, ground := Ground.phase }, { on := 4, ground := Ground.phase }, { on := 5, ground := Ground.phase }, { on := 6, ground := Ground.textOnly Departure.lateStores }, { on := 7, ground := Ground.textOnly Departure.lateStoresUnsure }, { on := 8, ground := Ground.textOnly Departure.lateStoresUnsure }, { on := 9, ground := Ground.phase }], guard := none }) rfl (by kernel_rfl) (by kernel_rfl) (by kernel_rfl) (fun _ _ _ h => h) ?_ hHeld ?_; (focus rfl)) | (refine takeW (i := 10) (oi := { dst := some 17, op := Op.assign (Operand.tmp 87), type := 22, pos := "law.go:83", after := #[{ on := 5, ground := Ground.data }, { on := 9, ground := Ground.chain }, { on := 0, ground := Ground.phase }, { on := 1, ground := Ground.phase }, { on := 2, ground := Ground.phase }, { on := 3, ground := Ground.phase }, { on := 4, ground := Ground.phase }, { on := 5, ground := Ground.phase }, { on := 6, ground := Ground.textOnly Departure.lateStores }, { on := 7, ground := Ground.textOnly Departure.lateStoresUnsure }, { on := 8, ground := Ground.textOnly Departure.lateStoresUnsure }, { on := 9, ground := Ground.phase }], guard := none }) ?_ rfl (by kernel_rfl) (by kernel_rfl) (by kernel_rfl) (fun _ _ _ h => h) ?_ ?_ hHeld ?_; rotate_left; (focus rfl); (focus (intro wq hSq; obtain sq0 := hSq; (first | (go_simp; done) | (go_simp; with_reducible rfl)))))
                  try simp only [Act.put, List.setIfInBounds_toArray, List.set_cons_zero, List.set_cons_succ]
                  first | (refine takeU (i := 11) (oi := { dst := some 18, op := Op.assign (Operand.tmp 90), type := 22, pos := "law.go:83", after := #[{ on := 8, ground := Ground.data }, { on := 10, ground := Ground.chain }, { on := 0, ground := Ground.phase }, { on := 1, ground := Ground.phase }, { on := 2, ground := Ground.phase }, { on := 3, ground := Ground.phase }, { on := 4, ground := Ground.phase }, { on := 5, ground := Ground.phase }, { on := 6, ground := Ground.phase }, { on := 7, ground := Ground.phase }, { on := 8, ground := Ground.phase }, { on := 9, ground := Ground.phase }, { on := 10, ground := Ground.phase }], guard := none }) rfl (by kernel_rfl) (by kernel_rfl) (by kernel_rfl) (fun _ _ _ h => h) ?_ hHeld ?_; (focus rfl)) | (refine takeW (i := 11) (oi := { dst := some 18, op := Op.assign (Operand.tmp 90), type := 22, pos := "law.go:83", after := #[{ on := 8, ground := Ground.data }, { on := 10, ground := Ground.chain }, { on := 0, ground := Ground.phase }, { on := 1, ground := Ground.phase }, { on := 2, ground := Ground.phase }, { on := 3, ground := Ground.phase }, { on := 4, ground := Ground.phase }, { on := 5, ground := Ground.phase }, { on := 6, ground := Ground.phase }, { on := 7, ground := Ground.phase }, { on := 8, ground := Ground.phase }, { on := 9, ground := Ground.phase }, { on := 10, ground := Ground.phase }], guard := none }) ?_ rfl (by kernel_rfl) (by kernel_rfl) (by kernel_rfl) (fun _ _ _ h => h) ?_ ?_ hHeld ?_; rotate_left; (focus rfl); (focus (intro wq hSq; obtain sq0 := hSq; (first | (go_simp; done) | (go_simp; with_reducible rfl)))))
                  try simp only [Act.put, List.setIfInBounds_toArray, List.set_cons_zero, List.set_cons_succ]
                  refine wpAnyH_done (by kernel_rfl) ?_ _
                  go_wp2_with fail
                  go_meet
                  exact ⟨_, _, _, rfl, rfl, rfl, HF.out⟩
            · as_aux_lemma =>
                go_simp
                try go_wp2_with fail
                refine hK.out _ _ ?_ (fun hHeld2 => ?_)
                · first | assumption | (trivial)
                clear hK K hHeld
                have hHeld := hHeld2; clear hHeld2
                try simp only [Act.put, List.setIfInBounds_toArray, List.set_cons_zero, List.set_cons_succ]
                refine wpAnyH_ready (rs := [2, 8]) (by kernel_rfl) (by simp) ?_
                refine (AllReadyH.cons (o := { dst := some 84, op := Op.call { callee := Callee.builtin Builtin.append, args := #[Operand.tmp 82, Operand.tmp 83], argTypes := #[22, 22] }, type := 22, pos := "law.go:83", after := #[{ on := 0, ground := Ground.data }, { on := 1, ground := Ground.data }], guard := none }) rfl (fun K hK => ?_) (AllReadyH.cons (o := { dst := some 90, op := Op.makeSlice 22 (Operand.tmp 89) (Operand.tmp 89), type := 22, pos := "law.go:83", after := #[{ on := 7, ground := Ground.data }, { on := 7, ground := Ground.data }], guard := none }) rfl (fun K hK => ?_) AllReadyH.nil))
                · (have Gx := Lib.hid (((G0.out).lit 3 #[] [] 0 (vz.heap.size) rfl rfl rfl).lit 3 #[] [] 0 (vz.heap.size + 1) (by simp) rfl rfl); refine step_appends_sep rfl (.tmp 82) (.tmp 83) 22 3 rfl Try.underlying22 Try.infoInt Gx.out 1 rfl rfl As ns cs (3 :: 4 :: r) rfl ((Gx.out.ownInts 15 rfl).2.2) ?_ ?_; (focus omega); intro x2 y2 h9; have G1 := Lib.hid h9; clear h9 Gx)
                  refine hK.out _ _ ?_ (fun hHeld2 => ?_)
                  · first | assumption | (trivial)
                  clear hK K hHeld
                  have hHeld := hHeld2; clear hHeld2
                  try simp only [Act.put, List.setIfInBounds_toArray, List.set_cons_zero, List.set_cons_succ]
                  refine wpAnyH_ready (rs := [5, 8]) (by kernel_rfl) (by simp) ?_
                  refine (AllReadyH.cons (o := { dst := some 87, op := Op.call { callee := Callee.builtin Builtin.append, args := #[Operand.tmp 85, Operand.tmp 86], argTypes := #[22, 22] }, type := 22, pos := "law.go:83", after := #[{ on := 3, ground := Ground.data }, { on := 4, ground := Ground.data }, { on := 2, ground := Ground.chain }], guard := none }) rfl (fun K hK => ?_) (AllReadyH.cons (o := { dst := some 90, op := Op.makeSlice 22 (Operand.tmp 89) (Operand.tmp 89), type := 22, pos := "law.go:83", after := #[{ on := 7, ground := Ground.data }, { on := 7, ground := Ground.data }], guard := none }) rfl (fun K hK => ?_) AllReadyH.nil))
                  · (have Gx := Lib.hid (G1.out); refine step_appends_sep rfl (.tmp 85) (.tmp 86) 22 3 rfl Try.underlying22 Try.infoInt Gx.out 0 rfl rfl As ns cs (3 :: 4 :: r) rfl ((Gx.out.ownInts 15 rfl).2.2) ?_ ?_; (focus omega); intro x5 y5 h9; have G2 := Lib.hid h9; clear h9 Gx)
                    refine hK.out _ _ ?_ (fun hHeld2 => ?_)
                    · first | assumption | (trivial)
                    clear hK K hHeld
                    have hHeld := hHeld2; clear hHeld2
                    try simp only [Act.put, List.setIfInBounds_toArray, List.set_cons_zero, List.set_cons_succ]
                    first | (refine takeU (i := 9) (oi := { dst := some 16, op := Op.assign (Operand.tmp 84), type := 22, pos := "law.go:83", after := #[{ on := 2, ground := Ground.data }, { on := 5, ground := Ground.chain }, { on := 0, ground := Ground.phase }, { on := 1, ground := Ground.phase }, { on := 2, ground := Ground.phase }, { on := 3, ground := Ground.textOnly Departure.lateStores }, { on := 4, ground := Ground.textOnly Departure.lateStores }, { on := 5, ground := Ground.textOnly Departure.lateStoresUnsure }, { on := 6, ground := Ground.textOnly Departure.lateStores }, { on := 7, ground := Ground.textOnly Departure.lateStoresUnsure }, { on := 8, ground := Ground.textOnly Departure.lateStoresUnsure }], guard := none }) rfl (by kernel_rfl) (by kernel_rfl) (by kernel_rfl) (fun _ _ _ h => h) ?_ hHeld ?_; (focus rfl)) | (refine takeW (i := 9) (oi := { dst := some 16, op := Op.assign (Operand.tmp 84), type := 22, pos := "law.go:83", after := #[{ on := 2, ground := Ground.data }, { on := 5, ground := Ground.chain }, { on := 0, ground := Ground.phase }, { on := 1, ground := Ground.phase }, { on := 2, ground := Ground.phase }, { on := 3, ground := Ground.textOnly Departure.lateStores }, { on := 4, ground := Ground.textOnly Departure.lateStores }, { on := 5, ground := Ground.textOnly Departure.lateStoresUnsure }, { on := 6, ground := Ground.textOnly Departure.lateStores }, { on := 7, ground := Ground.textOnly Departure.lateStoresUnsure }, { on := 8, ground := Ground.textOnly Departure.lateStoresUnsure }], guard := none }) ?_ rfl (by kernel_rfl) (by kernel_rfl) (by kernel_rfl) (fun _ _ _ h => h) ?_ ?_ hHeld ?_; rotate_left; (focus rfl); (focus (intro wq hSq; obtain sq0 := hSq; (first | (go_simp; done) | (go_simp; with_reducible rfl)))))
                    try simp only [Act.put, List.setIfInBounds_toArray, List.set_cons_zero, List.set_cons_succ]
                    first | (refine takeU (i := 10) (oi := { dst := some 17, op := Op.assign (Operand.tmp 87), type := 22, pos := "law.go:83", after := #[{ on := 5, ground := Ground.data }, { on := 9, ground := Ground.chain }, { on := 0, ground := Ground.phase }, { on := 1, ground := Ground.phase }, { on := 2, ground := Ground.phase }, { on := 3, ground := Ground.phase }, { on := 4, ground := Ground.phase }, { on := 5, ground := Ground.phase }, { on := 6, ground := Ground.textOnly Departure.lateStores }, { on := 7, ground := Ground.textOnly Departure.lateStoresUnsure }, { on := 8, ground := Ground.textOnly Departure.lateStoresUnsure }, { on := 9, ground := Ground.phase }], guard := none }) rfl (by kernel_rfl) (by kernel_rfl) (by kernel_rfl) (fun _ _ _ h => h) ?_ hHeld ?_; (focus rfl)) | (refine takeW (i := 10) (oi := { dst := some 17, op := Op.assign (Operand.tmp 87), type := 22, pos := "law.go:83", after := #[{ on := 5, ground := Ground.data }, { on := 9, ground := Ground.chain }, { on := 0, ground := Ground.phase }, { on := 1, ground := Ground.phase }, { on := 2, ground := Ground.phase }, { on := 3, ground := Ground.phase }, { on := 4, ground := Ground.phase }, { on := 5, ground := Ground.phase }, { on := 6, ground := Ground.textOnly Departure.lateStores }, { on := 7, ground := Ground.textOnly Departure.lateStoresUnsure }, { on := 8, ground := Ground.textOnly Departure.lateStoresUnsure }, { on := 9, ground := Ground.phase }], guard := none }) ?_ rfl (by kernel_rfl) (by kernel_rfl) (by kernel_rfl) (fun _ _ _ h => h) ?_ ?_ hHeld ?_; rotate_left; (focus rfl); (focus (intro wq hSq; obtain sq0 := hSq; (first | (go_simp; done) | (go_simp; with_reducible rfl)))))
                    try simp only [Act.put, List.setIfInBounds_toArray, List.set_cons_zero, List.set_cons_succ]
                    refine wpAnyH_ready (rs := [8]) (by kernel_rfl) (by simp) ?_
                    refine (AllReadyH.cons (o := { dst := some 90, op := Op.makeSlice 22 (Operand.tmp 89) (Operand.tmp 89), type := 22, pos := "law.go:83", after := #[{ on := 7, ground := Ground.data }, { on := 7, ground := Ground.data }], guard := none }) rfl (fun K hK => ?_) AllReadyH.nil)
                    have HF := Lib.hid ((((G2.out).noughtsAt 3 ns (y5.heap.size) rfl (by omega)).sub (l' := [.own 3 x2 (0 + ns) ([] ++ (3 :: 4 :: r)), .own 3 x5 (0 + ns) ([] ++ (3 :: 4 :: r)), .own 3 (.slice (some ⟨y5.heap.size, 0, none⟩) ns ns) ns (List.replicate ns 0), .own 3 (.slice (some ⟨gz, 0, none⟩) ns ns) ns (List.replicate ns 0), .box gc 26 [.slice Sc nc cc, .slice Dc mc dc], .own 3 (.slice Sc nc cc) nc (r), .own 2 (.slice Dc mc dc) mc (foldD k (3 :: 4 :: r) dt [0, 1]), .box gb 26 [.slice Sb nb cb, .slice Db mb db], .own 3 (.slice Sb nb cb) nb (r), .own 2 (.slice Db mb db) mb (foldD k (3 :: 4 :: r) dt [0, 1]), .box ga 26 [.slice Sa na ca, .slice Da ma da], .own 3 (.slice Sa na ca) na (3 :: r), .own 2 (.slice Da ma da) ma (foldD k (3 :: 4 :: r) dt [1]), .box gt 26 [.slice St nt kt, .slice Dt mt jt], .own 3 (.slice St nt kt) nt (3 :: 4 :: r), .own 2 (.slice Dt mt jt) mt dt, .own 3 (.slice As ns cs) ns (3 :: 4 :: r), .tape w.heap.size]) [2, 1, 0, 3, 4, 5, 6, 7, 8, 9, 10, 11, 12, 13, 14, 15, 16, 17] rfl (by decide)).recast (l' := .own 3 x2 ns (3 :: 4 :: r) :: .own 3 x5 ns (3 :: 4 :: r) :: .own 3 (.slice (some ⟨y5.heap.size, 0, none⟩) ns ns) ns (List.replicate ns 0) :: [.own 3 (.slice (some ⟨gz, 0, none⟩) ns ns) ns (List.replicate ns 0), .box gc 26 [.slice Sc nc cc, .slice Dc mc dc], .own 3 (.slice Sc nc cc) nc (r), .own 2 (.slice Dc mc dc) mc (foldD k (3 :: 4 :: r) dt [0, 1]), .box gb 26 [.slice Sb nb cb, .slice Db mb db], .own 3 (.slice Sb nb cb) nb (r), .own 2 (.slice Db mb db) mb (foldD k (3 :: 4 :: r) dt [0, 1]), .box ga 26 [.slice Sa na ca, .slice Da ma da], .own 3 (.slice Sa na ca) na (3 :: r), .own 2 (.slice Da ma da) ma (foldD k (3 :: 4 :: r) dt [1]), .box gt 26 [.slice St nt kt, .slice Dt mt jt], .own 3 (.slice St nt kt) nt (3 :: 4 :: r), .own 2 (.slice Dt mt jt) mt dt, .own 3 (.slice As ns cs) ns (3 :: 4 :: r), .tape w.heap.size]) (by simp))
                    go_simp
                    try go_wp2_with fail
                    refine hK.out _ _ ?_ (fun hHeld2 => ?_)
                    · first | assumption | (trivial)
                    clear hK K hHeld
                    have hHeld := hHeld2; clear hHeld2
                    try simp only [Act.put, List.setIfInBounds_toArray, List.set_cons_zero, List.set_cons_succ]
                    first | (refine takeU (i := 11) (oi := { dst := some 18, op := Op.assign (Operand.tmp 90), type := 22, pos := "law.go:83", after := #[{ on := 8, ground := Ground.data }, { on := 10, ground := Ground.chain }, { on := 0, ground := Ground.phase }, { on := 1, ground := Ground.phase }, { on := 2, ground := Ground.phase }, { on := 3, ground := Ground.phase }, { on := 4, ground := Ground.phase }, { on := 5, ground := Ground.phase }, { on := 6, ground := Ground.phase }, { on := 7, ground := Ground.phase }, { on := 8, ground := Ground.phase }, { on := 9, ground := Ground.phase }, { on := 10, ground := Ground.phase }], guard := none }) rfl (by kernel_rfl) (by kernel_rfl) (by kernel_rfl) (fun _ _ _ h => h) ?_ hHeld ?_; (focus rfl)) | (refine takeW (i := 11) (oi := { dst := some 18, op := Op.assign (Operand.tmp 90), type := 22, pos := "law.go:83", after := #[{ on := 8, ground := Ground.data }, { on := 10, ground := Ground.chain }, { on := 0, ground := Ground.phase }, { on := 1, ground := Ground.phase }, { on := 2, ground := Ground.phase }, { on := 3, ground := Ground.phase }, { on := 4, ground := Ground.phase }, { on := 5, ground := Ground.phase }, { on := 6, ground := Ground.phase }, { on := 7, ground := Ground.phase }, { on := 8, ground := Ground.phase }, { on := 9, ground := Ground.phase }, { on := 10, ground := Ground.phase }], guard := none }) ?_ rfl (by kernel_rfl) (by kernel_rfl) (by kernel_rfl) (fun _ _ _ h => h) ?_ ?_ hHeld ?_; rotate_left; (focus rfl); (focus (intro wq hSq; obtain sq0 := hSq; (first | (go_simp; done) | (go_simp; with_reducible rfl)))))
                    try simp only [Act.put, List.setIfInBounds_toArray, List.set_cons_zero, List.set_cons_succ]
                    refine wpAnyH_done (by kernel_rfl) ?_ _
                    go_wp2_with fail
                    go_meet
                    exact ⟨_, _, _, rfl, rfl, rfl, HF.out⟩
                  · go_simp
                    try go_wp2_with fail
                    refine hK.out _ _ ?_ (fun hHeld2 => ?_)
                    · first | assumption | (trivial)
                    clear hK K hHeld
                    have hHeld := hHeld2; clear hHeld2
                    try simp only [Act.put, List.setIfInBounds_toArray, List.set_cons_zero, List.set_cons_succ]
                    refine wpAnyH_ready (rs := [5]) (by kernel_rfl) (by simp) ?_
                    refine (AllReadyH.cons (o := { dst := some 87, op := Op.call { callee := Callee.builtin Builtin.append, args := #[Operand.tmp 85, Operand.tmp 86], argTypes := #[22, 22] }, type := 22, pos := "law.go:83", after := #[{ on := 3, ground := Ground.data }, { on := 4, ground := Ground.data }, { on := 2, ground := Ground.chain }], guard := none }) rfl (fun K hK => ?_) AllReadyH.nil)
                    (have Gx := Lib.hid ((G1.out).noughtsAt 3 ns (y2.heap.size) rfl (by omega)); refine step_appends_sep rfl (.tmp 85) (.tmp 86) 22 3 rfl Try.underlying22 Try.infoInt Gx.out 1 rfl rfl As ns cs (3 :: 4 :: r) rfl ((Gx.out.ownInts 16 rfl).2.2) ?_ ?_; (focus omega); intro x5 y5 h9; have G2 := Lib.hid h9; clear h9 Gx; have HF := Lib.hid (((G2.out).sub (l' := [.own 3 x2 (0 + ns) ([] ++ (3 :: 4 :: r)), .own 3 x5 (0 + ns) ([] ++ (3 :: 4 :: r)), .own 3 (.slice (some ⟨y2.heap.size, 0, none⟩) ns ns) ns (List.replicate ns 0), .own 3 (.slice (some ⟨gz, 0, none⟩) ns ns) ns (List.replicate ns 0), .box gc 26 [.slice Sc nc cc, .slice Dc mc dc], .own 3 (.slice Sc nc cc) nc (r), .own 2 (.slice Dc mc dc) mc (foldD k (3 :: 4 :: r) dt [0, 1]), .box gb 26 [.slice Sb nb cb, .slice Db mb db], .own 3 (.slice Sb nb cb) nb (r), .own 2 (.slice Db mb db) mb (foldD k (3 :: 4 :: r) dt [0, 1]), .box ga 26 [.slice Sa na ca, .slice Da ma da], .own 3 (.slice Sa na ca) na (3 :: r), .own 2 (.slice Da ma da) ma (foldD k (3 :: 4 :: r) dt [1]), .box gt 26 [.slice St nt kt, .slice Dt mt jt], .own 3 (.slice St nt kt) nt (3 :: 4 :: r), .own 2 (.slice Dt mt jt) mt dt, .own 3 (.slice As ns cs) ns (3 :: 4 :: r), .tape w.heap.size]) [2, 1, 0, 3, 4, 5, 6, 7, 8, 9, 10, 11, 12, 13, 14, 15, 16, 17] rfl (by decide)).recast (l' := .own 3 x2 ns (3 :: 4 :: r) :: .own 3 x5 ns (3 :: 4 :: r) :: .own 3 (.slice (some ⟨y2.heap.size, 0, none⟩) ns ns) ns (List.replicate ns 0) :: [.own 3 (.slice (some ⟨gz, 0, none⟩) ns ns) ns (List.replicate ns 0), .box gc 26 [.slice Sc nc cc, .slice Dc mc dc], .own 3 (.slice Sc nc cc) nc (r), .own 2 (.slice Dc mc dc) mc (foldD k (3 :: 4 :: r) dt [0, 1]), .box gb 26 [.slice Sb nb cb, .slice Db mb db], .own 3 (.slice Sb nb cb) nb (r), .own 2 (.slice Db mb db) mb (foldD k (3 :: 4 :: r) dt [0, 1]), .box ga 26 [.slice Sa na ca, .slice Da ma da], .own 3 (.slice Sa na ca) na (3 :: r), .own 2 (.slice Da ma da) ma (foldD k (3 :: 4 :: r) dt [1]), .box gt 26 [.slice St nt kt, .slice Dt mt jt], .own 3 (.slice St nt kt) nt (3 :: 4 :: r), .own 2 (.slice Dt mt jt) mt dt, .own 3 (.slice As ns cs) ns (3 :: 4 :: r), .tape w.heap.size]) (by simp)))
                    refine hK.out _ _ ?_ (fun hHeld2 => ?_)
                    · first | assumption | (trivial)
                    clear hK K hHeld
                    have hHeld := hHeld2; clear hHeld2
                    try simp only [Act.put, List.setIfInBounds_toArray, List.set_cons_zero, List.set_cons_succ]
                    first | (refine takeU (i := 9) (oi := { dst := some 16, op := Op.assign (Operand.tmp 84), type := 22, pos := "law.go:83", after := #[{ on := 2, ground := Ground.data }, { on := 5, ground := Ground.chain }, { on := 0, ground := Ground.phase }, { on := 1, ground := Ground.phase }, { on := 2, ground := Ground.phase }, { on := 3, ground := Ground.textOnly Departure.lateStores }, { on := 4, ground := Ground.textOnly Departure.lateStores }, { on := 5, ground := Ground.textOnly Departure.lateStoresUnsure }, { on := 6, ground := Ground.textOnly Departure.lateStores }, { on := 7, ground := Ground.textOnly Departure.lateStoresUnsure }, { on := 8, ground := Ground.textOnly Departure.lateStoresUnsure }], guard := none }) rfl (by kernel_rfl) (by kernel_rfl) (by kernel_rfl) (fun _ _ _ h => h) ?_ hHeld ?_; (focus rfl)) | (refine takeW (i := 9) (oi := { dst := some 16, op := Op.assign (Operand.tmp 84), type := 22, pos := "law.go:83", after := #[{ on := 2, ground := Ground.data }, { on := 5, ground := Ground.chain }, { on := 0, ground := Ground.phase }, { on := 1, ground := Ground.phase }, { on := 2, ground := Ground.phase }, { on := 3, ground := Ground.textOnly Departure.lateStores }, { on := 4, ground := Ground.textOnly Departure.lateStores }, { on := 5, ground := Ground.textOnly Departure.lateStoresUnsure }, { on := 6, ground := Ground.textOnly Departure.lateStores }, { on := 7, ground := Ground.textOnly Departure.lateStoresUnsure }, { on := 8, ground := Ground.textOnly Departure.lateStoresUnsure }], guard := none }) ?_ rfl (by kernel_rfl) (by kernel_rfl) (by kernel_rfl) (fun _ _ _ h => h) ?_ ?_ hHeld ?_; rotate_left; (focus rfl); (focus (intro wq hSq; obtain sq0 := hSq; (first | (go_simp; done) | (go_simp; with_reducible rfl)))))
                    try simp only [Act.put, List.setIfInBounds_toArray, List.set_cons_zero, List.set_cons_succ]
                    first | (refine takeU (i := 10) (oi := { dst := some 17, op := Op.assign (Operand.tmp 87), type := 22, pos := "law.go:83", after := #[{ on := 5, ground := Ground.data }, { on := 9, ground := Ground.chain }, { on := 0, ground := Ground.phase }, { on := 1, ground := Ground.phase }, { on := 2, ground := Ground.phase }, { on := 3, ground := Ground.phase }, { on := 4, ground := Ground.phase }, { on := 5, ground := Ground.phase }, { on := 6, ground := Ground.textOnly Departure.lateStores }, { on := 7, ground := Ground.textOnly Departure.lateStoresUnsure }, { on := 8, ground := Ground.textOnly Departure.lateStoresUnsure }, { on := 9, ground := Ground.phase }], guard := none }) rfl (by kernel_rfl) (by kernel_rfl) (by kernel_rfl) (fun _ _ _ h => h) ?_ hHeld ?_; (focus rfl)) | (refine takeW (i := 10) (oi := { dst := some 17, op := Op.assign (Operand.tmp 87), type := 22, pos := "law.go:83", after := #[{ on := 5, ground := Ground.data }, { on := 9, ground := Ground.chain }, { on := 0, ground := Ground.phase }, { on := 1, ground := Ground.phase }, { on := 2, ground := Ground.phase }, { on := 3, ground := Ground.phase }, { on := 4, ground := Ground.phase }, { on := 5, ground := Ground.phase }, { on := 6, ground := Ground.textOnly Departure.lateStores }, { on := 7, ground := Ground.textOnly Departure.lateStoresUnsure }, { on := 8, ground := Ground.textOnly Departure.lateStoresUnsure }, { on := 9, ground := Ground.phase }], guard := none }) ?_ rfl (by kernel_rfl) (by kernel_rfl) (by kernel_rfl) (fun _ _ _ h => h) ?_ ?_ hHeld ?_; rotate_left; (focus rfl); (focus (intro wq hSq; obtain sq0 := hSq; (first | (go_simp; done) | (go_simp; with_reducible rfl)))))
                    try simp only [Act.put, List.setIfInBounds_toArray, List.set_cons_zero, List.set_cons_succ]
                    first | (refine takeU (i := 11) (oi := { dst := some 18, op := Op.assign (Operand.tmp 90), type := 22, pos := "law.go:83", after := #[{ on := 8, ground := Ground.data }, { on := 10, ground := Ground.chain }, { on := 0, ground := Ground.phase }, { on := 1, ground := Ground.phase }, { on := 2, ground := Ground.phase }, { on := 3, ground := Ground.phase }, { on := 4, ground := Ground.phase }, { on := 5, ground := Ground.phase }, { on := 6, ground := Ground.phase }, { on := 7, ground := Ground.phase }, { on := 8, ground := Ground.phase }, { on := 9, ground := Ground.phase }, { on := 10, ground := Ground.phase }], guard := none }) rfl (by kernel_rfl) (by kernel_rfl) (by kernel_rfl) (fun _ _ _ h => h) ?_ hHeld ?_; (focus rfl)) | (refine takeW (i := 11) (oi := { dst := some 18, op := Op.assign (Operand.tmp 90), type := 22, pos := "law.go:83", after := #[{ on := 8, ground := Ground.data }, { on := 10, ground := Ground.chain }, { on := 0, ground := Ground.phase }, { on := 1, ground := Ground.phase }, { on := 2, ground := Ground.phase }, { on := 3, ground := Ground.phase }, { on := 4, ground := Ground.phase }, { on := 5, ground := Ground.phase }, { on := 6, ground := Ground.phase }, { on := 7, ground := Ground.phase }, { on := 8, ground := Ground.phase }, { on := 9, ground := Ground.phase }, { on := 10, ground := Ground.phase }], guard := none }) ?_ rfl (by kernel_rfl) (by kernel_rfl) (by kernel_rfl) (fun _ _ _ h => h) ?_ ?_ hHeld ?_; rotate_left; (focus rfl); (focus (intro wq hSq; obtain sq0 := hSq; (first | (go_simp; done) | (go_simp; with_reducible rfl)))))
                    try simp only [Act.put, List.setIfInBounds_toArray, List.set_cons_zero, List.set_cons_succ]
                    refine wpAnyH_done (by kernel_rfl) ?_ _
                    go_wp2_with fail
                    go_meet
                    exact ⟨_, _, _, rfl, rfl, rfl, HF.out⟩
                · go_simp
                  try go_wp2_with fail
                  refine hK.out _ _ ?_ (fun hHeld2 => ?_)
                  · first | assumption | (trivial)
                  clear hK K hHeld
                  have hHeld := hHeld2; clear hHeld2
                  try simp only [Act.put, List.setIfInBounds_toArray, List.set_cons_zero, List.set_cons_succ]
                  refine wpAnyH_ready (rs := [2]) (by kernel_rfl) (by simp) ?_
                  refine (AllReadyH.cons (o := { dst := some 84, op := Op.call { callee := Callee.builtin Builtin.append, args := #[Operand.tmp 82, Operand.tmp 83], argTypes := #[22, 22] }, type := 22, pos := "law.go:83", after := #[{ on := 0, ground := Ground.data }, { on := 1, ground := Ground.data }], guard := none }) rfl (fun K hK => ?_) AllReadyH.nil)
                  (have Gx := Lib.hid ((((G0.out).lit 3 #[] [] 0 (vz.heap.size) rfl rfl rfl).lit 3 #[] [] 0 (vz.heap.size + 1) (by simp) rfl rfl).noughtsAt 3 ns (vz.heap.size + 1 + 1) (by simp) (by omega)); refine step_appends_sep rfl (.tmp 82) (.tmp 83) 22 3 rfl Try.underlying22 Try.infoInt Gx.out 2 rfl rfl As ns cs (3 :: 4 :: r) rfl ((Gx.out.ownInts 16 rfl).2.2) ?_ ?_; (focus omega); intro x2 y2 h9; have G1 := Lib.hid h9; clear h9 Gx)
                  refine hK.out _ _ ?_ (fun hHeld2 => ?_)
                  · first | assumption | (trivial)
                  clear hK K hHeld
                  have hHeld := hHeld2; clear hHeld2
                  try simp only [Act.put, List.setIfInBounds_toArray, List.set_cons_zero, List.set_cons_succ]
                  refine wpAnyH_ready (rs := [5]) (by kernel_rfl) (by simp) ?_
                  refine (AllReadyH.cons (o := { dst := some 87, op := Op.call { callee := Callee.builtin Builtin.append, args := #[Operand.tmp 85, Operand.tmp 86], argTypes := #[22, 22] }, type := 22, pos := "law.go:83", after := #[{ on := 3, ground := Ground.data }, { on := 4, ground := Ground.data }, { on := 2, ground := Ground.chain }], guard := none }) rfl (fun K hK => ?_) AllReadyH.nil)
                  (have Gx := Lib.hid (G1.out); refine step_appends_sep rfl (.tmp 85) (.tmp 86) 22 3 rfl Try.underlying22 Try.infoInt Gx.out 1 rfl rfl As ns cs (3 :: 4 :: r) rfl ((Gx.out.ownInts 16 rfl).2.2) ?_ ?_; (focus omega); intro x5 y5 h9; have G2 := Lib.hid h9; clear h9 Gx; have HF := Lib.hid (((G2.out).sub (l' := [.own 3 x2 (0 + ns) ([] ++ (3 :: 4 :: r)), .own 3 x5 (0 + ns) ([] ++ (3 :: 4 :: r)), .own 3 (.slice (some ⟨vz.heap.size + 1 + 1, 0, none⟩) ns ns) ns (List.replicate ns 0), .own 3 (.slice (some ⟨gz, 0, none⟩) ns ns) ns (List.replicate ns 0), .box gc 26 [.slice Sc nc cc, .slice Dc mc dc], .own 3 (.slice Sc nc cc) nc (r), .own 2 (.slice Dc mc dc) mc (foldD k (3 :: 4 :: r) dt [0, 1]), .box gb 26 [.slice Sb nb cb, .slice Db mb db], .own 3 (.slice Sb nb cb) nb (r), .own 2 (.slice Db mb db) mb (foldD k (3 :: 4 :: r) dt [0, 1]), .box ga 26 [.slice Sa na ca, .slice Da ma da], .own 3 (.slice Sa na ca) na (3 :: r), .own 2 (.slice Da ma da) ma (foldD k (3 :: 4 :: r) dt [1]), .box gt 26 [.slice St nt kt, .slice Dt mt jt], .own 3 (.slice St nt kt) nt (3 :: 4 :: r), .own 2 (.slice Dt mt jt) mt dt, .own 3 (.slice As ns cs) ns (3 :: 4 :: r), .tape w.heap.size]) [2, 1, 0, 3, 4, 5, 6, 7, 8, 9, 10, 11, 12, 13, 14, 15, 16, 17] rfl (by decide)).recast (l' := .own 3 x2 ns (3 :: 4 :: r) :: .own 3 x5 ns (3 :: 4 :: r) :: .own 3 (.slice (some ⟨vz.heap.size + 1 + 1, 0, none⟩) ns ns) ns (List.replicate ns 0) :: [.own 3 (.slice (some ⟨gz, 0, none⟩) ns ns) ns (List.replicate ns 0), .box gc 26 [.slice Sc nc cc, .slice Dc mc dc], .own 3 (.slice Sc nc cc) nc (r), .own 2 (.slice Dc mc dc) mc (foldD k (3 :: 4 :: r) dt [0, 1]), .box gb 26 [.slice Sb nb cb, .slice Db mb db], .own 3 (.slice Sb nb cb) nb (r), .own 2 (.slice Db mb db) mb (foldD k (3 :: 4 :: r) dt [0, 1]), .box ga 26 [.slice Sa na ca, .slice Da ma da], .own 3 (.slice Sa na ca) na (3 :: r), .own 2 (.slice Da ma da) ma (foldD k (3 :: 4 :: r) dt [1]), .box gt 26 [.slice St nt kt, .slice Dt mt jt], .own 3 (.slice St nt kt) nt (3 :: 4 :: r), .own 2 (.slice Dt mt jt) mt dt, .own 3 (.slice As ns cs) ns (3 :: 4 :: r), .tape w.heap.size]) (by simp)))
                  refine hK.out _ _ ?_ (fun hHeld2 => ?_)
                  · first | assumption | (trivial)
                  clear hK K hHeld
                  have hHeld := hHeld2; clear hHeld2
                  try simp only [Act.put, List.setIfInBounds_toArray, List.set_cons_zero, List.set_cons_succ]
                  first | (refine takeU (i := 9) (oi := { dst := some 16, op := Op.assign (Operand.tmp 84), type := 22, pos := "law.go:83", after := #[{ on := 2, ground := Ground.data }, { on := 5, ground := Ground.chain }, { on := 0, ground := Ground.phase }, { on := 1, ground := Ground.phase }, { on := 2, ground := Ground.phase }, { on := 3, ground := Ground.textOnly Departure.lateStores }, { on := 4, ground := Ground.textOnly Departure.lateStores }, { on := 5, ground := Ground.textOnly Departure.lateStoresUnsure }, { on := 6, ground := Ground.textOnly Departure.lateStores }, { on := 7, ground := Ground.textOnly Departure.lateStoresUnsure }, { on := 8, ground := Ground.textOnly Departure.lateStoresUnsure }], guard := none }) rfl (by kernel_rfl) (by kernel_rfl) (by kernel_rfl) (fun _ _ _ h => h) ?_ hHeld ?_; (focus rfl)) | (refine takeW (i := 9) (oi := { dst := some 16, op := Op.assign (Operand.tmp 84), type := 22, pos := "law.go:83", after := #[{ on := 2, ground := Ground.data }, { on := 5, ground := Ground.chain }, { on := 0, ground := Ground.phase }, { on := 1, ground := Ground.phase }, { on := 2, ground := Ground.phase }, { on := 3, ground := Ground.textOnly Departure.lateStores }, { on := 4, ground := Ground.textOnly Departure.lateStores }, { on := 5, ground := Ground.textOnly Departure.lateStoresUnsure }, { on := 6, ground := Ground.textOnly Departure.lateStores }, { on := 7, ground := Ground.textOnly Departure.lateStoresUnsure }, { on := 8, ground := Ground.textOnly Departure.lateStoresUnsure }], guard := none }) ?_ rfl (by kernel_rfl) (by kernel_rfl) (by kernel_rfl) (fun _ _ _ h => h) ?_ ?_ hHeld ?_; rotate_left; (focus rfl); (focus (intro wq hSq; obtain sq0 := hSq; (first | (go_simp; done) | (go_simp; with_reducible rfl)))))
                  try simp only [Act.put, List.setIfInBounds_toArray, List.set_cons_zero, List.set_cons_succ]
                  first | (refine takeU (i := 10) (oi := { dst := some 17, op := Op.assign (Operand.tmp 87), type := 22, pos := "law.go:83", after := #[{ on := 5, ground := Ground.data }, { on := 9, ground := Ground.chain }, { on := 0, ground := Ground.phase }, { on := 1, ground := Ground.phase }, { on := 2, ground := Ground.phase }, { on := 3, ground := Ground.phase }, { on := 4, ground := Ground.phase }, { on := 5, ground := Ground.phase }, { on := 6, ground := Ground.textOnly Departure.lateStores }, { on := 7, ground := Ground.textOnly Departure.lateStoresUnsure }, { on := 8, ground := Ground.textOnly Departure.lateStoresUnsure }, { on := 9, ground := Ground.phase }], guard := none }) rfl (by kernel_rfl) (by kernel_rfl) (by kernel_rfl) (fun _ _ _ h => h) ?_ hHeld ?_; (focus rfl)) | (refine takeW (i := 10) (oi := { dst := some 17, op := Op.assign (Operand.tmp 87), type := 22, pos := "law.go:83", after := #[{ on := 5, ground := Ground.data }, { on := 9, ground := Ground.chain }, { on := 0, ground := Ground.phase }, { on := 1, ground := Ground.phase }, { on := 2, ground := Ground.phase }, { on := 3, ground := Ground.phase }, { on := 4, ground := Ground.phase }, { on := 5, ground := Ground.phase }, { on := 6, ground := Ground.textOnly Departure.lateStores }, { on := 7, ground := Ground.textOnly Departure.lateStoresUnsure }, { on := 8, ground := Ground.textOnly Departure.lateStoresUnsure }, { on := 9, ground := Ground.phase }], guard := none }) ?_ rfl (by kernel_rfl) (by kernel_rfl) (by kernel_rfl) (fun _ _ _ h => h) ?_ ?_ hHeld ?_; rotate_left; (focus rfl); (focus (intro wq hSq; obtain sq0 := hSq; (first | (go_simp; done) | (go_simp; with_reducible rfl)))))
                  try simp only [Act.put, List.setIfInBounds_toArray, List.set_cons_zero, List.set_cons_succ]
                  first | (refine takeU (i := 11) (oi := { dst := some 18, op := Op.assign (Operand.tmp 90), type := 22, pos := "law.go:83", after := #[{ on := 8, ground := Ground.data }, { on := 10, ground := Ground.chain }, { on := 0, ground := Ground.phase }, { on := 1, ground := Ground.phase }, { on := 2, ground := Ground.phase }, { on := 3, ground := Ground.phase }, { on := 4, ground := Ground.phase }, { on := 5, ground := Ground.phase }, { on := 6, ground := Ground.phase }, { on := 7, ground := Ground.phase }, { on := 8, ground := Ground.phase }, { on := 9, ground := Ground.phase }, { on := 10, ground := Ground.phase }], guard := none }) rfl (by kernel_rfl) (by kernel_rfl) (by kernel_rfl) (fun _ _ _ h => h) ?_ hHeld ?_; (focus rfl)) | (refine takeW (i := 11) (oi := { dst := some 18, op := Op.assign (Operand.tmp 90), type := 22, pos := "law.go:83", after := #[{ on := 8, ground := Ground.data }, { on := 10, ground := Ground.chain }, { on := 0, ground := Ground.phase }, { on := 1, ground := Ground.phase }, { on := 2, ground := Ground.phase }, { on := 3, ground := Ground.phase }, { on := 4, ground := Ground.phase }, { on := 5, ground := Ground.phase }, { on := 6, ground := Ground.phase }, { on := 7, ground := Ground.phase }, { on := 8, ground := Ground.phase }, { on := 9, ground := Ground.phase }, { on := 10, ground := Ground.phase }], guard := none }) ?_ rfl (by kernel_rfl) (by kernel_rfl) (by kernel_rfl) (fun _ _ _ h => h) ?_ ?_ hHeld ?_; rotate_left; (focus rfl); (focus (intro wq hSq; obtain sq0 := hSq; (first | (go_simp; done) | (go_simp; with_reducible rfl)))))
                  try simp only [Act.put, List.setIfInBounds_toArray, List.set_cons_zero, List.set_cons_succ]
                  refine wpAnyH_done (by kernel_rfl) ?_ _
                  go_wp2_with fail
                  go_meet
                  exact ⟨_, _, _, rfl, rfl, rfl, HF.out⟩
            · as_aux_lemma =>
                go_simp
                try go_wp2_with fail
                refine hK.out _ _ ?_ (fun hHeld2 => ?_)
                · first | assumption | (trivial)
                clear hK K hHeld
                have hHeld := hHeld2; clear hHeld2
                try simp only [Act.put, List.setIfInBounds_toArray, List.set_cons_zero, List.set_cons_succ]
                refine wpAnyH_ready (rs := [2, 3]) (by kernel_rfl) (by simp) ?_
                refine (AllReadyH.cons (o := { dst := some 84, op := Op.call { callee := Callee.builtin Builtin.append, args := #[Operand.tmp 82, Operand.tmp 83], argTypes := #[22, 22] }, type := 22, pos := "law.go:83", after := #[{ on := 0, ground := Ground.data }, { on := 1, ground := Ground.data }], guard := none }) rfl (fun K hK => ?_) (AllReadyH.cons (o := { dst := some 85, op := Op.buildSlice 22 0 #[], type := 22, pos := "law.go:83", after := #[], guard := none }) rfl (fun K hK => ?_) AllReadyH.nil))
                · (have Gx := Lib.hid (((G0.out).lit 3 #[] [] 0 (vz.heap.size) rfl rfl rfl).noughtsAt 3 ns (vz.heap.size + 1) (by simp) (by omega)); refine step_appends_sep rfl (.tmp 82) (.tmp 83) 22 3 rfl Try.underlying22 Try.infoInt Gx.out 1 rfl rfl As ns cs (3 :: 4 :: r) rfl ((Gx.out.ownInts 15 rfl).2.2) ?_ ?_; (focus omega); intro x2 y2 h9; have G1 := Lib.hid h9; clear h9 Gx)
                  refine hK.out _ _ ?_ (fun hHeld2 => ?_)
                  · first | assumption | (trivial)
                  clear hK K hHeld
                  have hHeld := hHeld2; clear hHeld2
                  try simp only [Act.put, List.setIfInBounds_toArray, List.set_cons_zero, List.set_cons_succ]
                  refine wpAnyH_ready (rs := [3]) (by kernel_rfl) (by simp) ?_
                  refine (AllReadyH.cons (o := { dst := some 85, op := Op.buildSlice 22 0 #[], type := 22, pos := "law.go:83", after := #[], guard := none }) rfl (fun K hK => ?_) AllReadyH.nil)
                  go_simp
                  try go_wp2_with fail
                  refine hK.out _ _ ?_ (fun hHeld2 => ?_)
                  · first | assumption | (trivial)
                  clear hK K hHeld
                  have hHeld := hHeld2; clear hHeld2
                  try simp only [Act.put, List.setIfInBounds_toArray, List.set_cons_zero, List.set_cons_succ]
                  refine wpAnyH_ready (rs := [5]) (by kernel_rfl) (by simp) ?_
                  refine (AllReadyH.cons (o := { dst := some 87, op := Op.call { callee := Callee.builtin Builtin.append, args := #[Operand.tmp 85, Operand.tmp 86], argTypes := #[22, 22] }, type := 22, pos := "law.go:83", after := #[{ on := 3, ground := Ground.data }, { on := 4, ground := Ground.data }, { on := 2, ground := Ground.chain }], guard := none }) rfl (fun K hK => ?_) AllReadyH.nil)
                  (have Gx := Lib.hid ((G1.out).lit 3 #[] [] 0 (y2.heap.size) rfl rfl rfl); refine step_appends_sep rfl (.tmp 85) (.tmp 86) 22 3 rfl Try.underlying22 Try.infoInt Gx.out 0 rfl rfl As ns cs (3 :: 4 :: r) rfl ((Gx.out.ownInts 16 rfl).2.2) ?_ ?_; (focus omega); intro x5 y5 h9; have G2 := Lib.hid h9; clear h9 Gx; have HF := Lib.hid (((G2.out).sub (l' := [.own 3 x2 (0 + ns) ([] ++ (3 :: 4 :: r)), .own 3 x5 (0 + ns) ([] ++ (3 :: 4 :: r)), .own 3 (.slice (some ⟨vz.heap.size + 1, 0, none⟩) ns ns) ns (List.replicate ns 0), .own 3 (.slice (some ⟨gz, 0, none⟩) ns ns) ns (List.replicate ns 0), .box gc 26 [.slice Sc nc cc, .slice Dc mc dc], .own 3 (.slice Sc nc cc) nc (r), .own 2 (.slice Dc mc dc) mc (foldD k (3 :: 4 :: r) dt [0, 1]), .box gb 26 [.slice Sb nb cb, .slice Db mb db], .own 3 (.slice Sb nb cb) nb (r), .own 2 (.slice Db mb db) mb (foldD k (3 :: 4 :: r) dt [0, 1]), .box ga 26 [.slice Sa na ca, .slice Da ma da], .own 3 (.slice Sa na ca) na (3 :: r), .own 2 (.slice Da ma da) ma (foldD k (3 :: 4 :: r) dt [1]), .box gt 26 [.slice St nt kt, .slice Dt mt jt], .own 3 (.slice St nt kt) nt (3 :: 4 :: r), .own 2 (.slice Dt mt jt) mt dt, .own 3 (.slice As ns cs) ns (3 :: 4 :: r), .tape w.heap.size]) [2, 0, 1, 3, 4, 5, 6, 7, 8, 9, 10, 11, 12, 13, 14, 15, 16, 17] rfl (by decide)).recast (l' := .own 3 x2 ns (3 :: 4 :: r) :: .own 3 x5 ns (3 :: 4 :: r) :: .own 3 (.slice (some ⟨vz.heap.size + 1, 0, none⟩) ns ns) ns (List.replicate ns 0) :: [.own 3 (.slice (some ⟨gz, 0, none⟩) ns ns) ns (List.replicate ns 0), .box gc 26 [.slice Sc nc cc, .slice Dc mc dc], .own 3 (.slice Sc nc cc) nc (r), .own 2 (.slice Dc mc dc) mc (foldD k (3 :: 4 :: r) dt [0, 1]), .box gb 26 [.slice Sb nb cb, .slice Db mb db], .own 3 (.slice Sb nb cb) nb (r), .own 2 (.slice Db mb db) mb (foldD k (3 :: 4 :: r) dt [0, 1]), .box ga 26 [.slice Sa na ca, .slice Da ma da], .own 3 (.slice Sa na ca) na (3 :: r), .own 2 (.slice Da ma da) ma (foldD k (3 :: 4 :: r) dt [1]), .box gt 26 [.slice St nt kt, .slice Dt mt jt], .own 3 (.slice St nt kt) nt (3 :: 4 :: r), .own 2 (.slice Dt mt jt) mt dt, .own 3 (.slice As ns cs) ns (3 :: 4 :: r), .tape w.heap.size]) (by simp)))
                  refine hK.out _ _ ?_ (fun hHeld2 => ?_)
                  · first | assumption | (trivial)
                  clear hK K hHeld
                  have hHeld := hHeld2; clear hHeld2
                  try simp only [Act.put, List.setIfInBounds_toArray, List.set_cons_zero, List.set_cons_succ]
                  first | (refine takeU (i := 9) (oi := { dst := some 16, op := Op.assign (Operand.tmp 84), type := 22, pos := "law.go:83", after := #[{ on := 2, ground := Ground.data }, { on := 5, ground := Ground.chain }, { on := 0, ground := Ground.phase }, { on := 1, ground := Ground.phase }, { on := 2, ground := Ground.phase }, { on := 3, ground := Ground.textOnly Departure.lateStores }, { on := 4, ground := Ground.textOnly Departure.lateStores }, { on := 5, ground := Ground.textOnly Departure.lateStoresUnsure }, { on := 6, ground := Ground.textOnly Departure.lateStores }, { on := 7, ground := Ground.textOnly Departure.lateStoresUnsure }, { on := 8, ground := Ground.textOnly Departure.lateStoresUnsure }], guard := none }) rfl (by kernel_rfl) (by kernel_rfl) (by kernel_rfl) (fun _ _ _ h => h) ?_ hHeld ?_; (focus rfl)) | (refine takeW (i := 9) (oi := { dst := some 16, op := Op.assign (Operand.tmp 84), type := 22, pos := "law.go:83", after := #[{ on := 2, ground := Ground.data }, { on := 5, ground := Ground.chain }, { on := 0, ground := Ground.phase }, { on := 1, ground := Ground.phase }, { on := 2, ground := Ground.phase }, { on := 3, ground := Ground.textOnly Departure.lateStores }, { on := 4, ground := Ground.textOnly Departure.lateStores }, { on := 5, ground := Ground.textOnly Departure.lateStoresUnsure }, { on := 6, ground := Ground.textOnly Departure.lateStores }, { on := 7, ground := Ground.textOnly Departure.lateStoresUnsure }, { on := 8, ground := Ground.textOnly Departure.lateStoresUnsure }], guard := none }) ?_ rfl (by kernel_rfl) (by kernel_rfl) (by kernel_rfl) (fun _ _ _ h => h) ?_ ?_ hHeld ?_; rotate_left; (focus rfl); (focus (intro wq hSq; obtain sq0 := hSq; (first | (go_simp; done) | (go_simp; with_reducible rfl)))))
                  try simp only [Act.put, List.setIfInBounds_toArray, List.set_cons_zero, List.set_cons_succ]
                  first | (refine takeU (i := 10) (oi := { dst := some 17, op := Op.assign (Operand.tmp 87), type := 22, pos := "law.go:83", after := #[{ on := 5, ground := Ground.data }, { on := 9, ground := Ground.chain }, { on := 0, ground := Ground.phase }, { on := 1, ground := Ground.phase }, { on := 2, ground := Ground.phase }, { on := 3, ground := Ground.phase }, { on := 4, ground := Ground.phase }, { on := 5, ground := Ground.phase }, { on := 6, ground := Ground.textOnly Departure.lateStores }, { on := 7, ground := Ground.textOnly Departure.lateStoresUnsure }, { on := 8, ground := Ground.textOnly Departure.lateStoresUnsure }, { on := 9, ground := Ground.phase }], guard := none }) rfl (by kernel_rfl) (by kernel_rfl) (by kernel_rfl) (fun _ _ _ h => h) ?_ hHeld ?_; (focus rfl)) | (refine takeW (i := 10) (oi := { dst := some 17, op := Op.assign (Operand.tmp 87), type := 22, pos := "law.go:83", after := #[{ on := 5, ground := Ground.data }, { on := 9, ground := Ground.chain }, { on := 0, ground := Ground.phase }, { on := 1, ground := Ground.phase }, { on := 2, ground := Ground.phase }, { on := 3, ground := Ground.phase }, { on := 4, ground := Ground.phase }, { on := 5, ground := Ground.phase }, { on := 6, ground := Ground.textOnly Departure.lateStores }, { on := 7, ground := Ground.textOnly Departure.lateStoresUnsure }, { on := 8, ground := Ground.textOnly Departure.lateStoresUnsure }, { on := 9, ground := Ground.phase }], guard := none }) ?_ rfl (by kernel_rfl) (by kernel_rfl) (by kernel_rfl) (fun _ _ _ h => h) ?_ ?_ hHeld ?_; rotate_left; (focus rfl); (focus (intro wq hSq; obtain sq0 := hSq; (first | (go_simp; done) | (go_simp; with_reducible rfl)))))
                  try simp only [Act.put, List.setIfInBounds_toArray, List.set_cons_zero, List.set_cons_succ]
                  first | (refine takeU (i := 11) (oi := { dst := some 18, op := Op.assign (Operand.tmp 90), type := 22, pos := "law.go:83", after := #[{ on := 8, ground := Ground.data }, { on := 10, ground := Ground.chain }, { on := 0, ground := Ground.phase }, { on := 1, ground := Ground.phase }, { on := 2, ground := Ground.phase }, { on := 3, ground := Ground.phase }, { on := 4, ground := Ground.phase }, { on := 5, ground := Ground.phase }, { on := 6, ground := Ground.phase }, { on := 7, ground := Ground.phase }, { on := 8, ground := Ground.phase }, { on := 9, ground := Ground.phase }, { on := 10, ground := Ground.phase }], guard := none }) rfl (by kernel_rfl) (by kernel_rfl) (by kernel_rfl) (fun _ _ _ h => h) ?_ hHeld ?_; (focus rfl)) | (refine takeW (i := 11) (oi := { dst := some 18, op := Op.assign (Operand.tmp 90), type := 22, pos := "law.go:83", after := #[{ on := 8, ground := Ground.data }, { on := 10, ground := Ground.chain }, { on := 0, ground := Ground.phase }, { on := 1, ground := Ground.phase }, { on := 2, ground := Ground.phase }, { on := 3, ground := Ground.phase }, { on := 4, ground := Ground.phase }, { on := 5, ground := Ground.phase }, { on := 6, ground := Ground.phase }, { on := 7, ground := Ground.phase }, { on := 8, ground := Ground.phase }, { on := 9, ground := Ground.phase }, { on := 10, ground := Ground.phase }], guard := none }) ?_ rfl (by kernel_rfl) (by kernel_rfl) (by kernel_rfl) (fun _ _ _ h => h) ?_ ?_ hHeld ?_; rotate_left; (focus rfl); (focus (intro wq hSq; obtain sq0 := hSq; (first | (go_simp; done) | (go_simp; with_reducible rfl)))))
                  try simp only [Act.put, List.setIfInBounds_toArray, List.set_cons_zero, List.set_cons_succ]
                  refine wpAnyH_done (by kernel_rfl) ?_ _
                  go_wp2_with fail
                  go_meet
                  exact ⟨_, _, _, rfl, rfl, rfl, HF.out⟩
                · go_simp
                  try go_wp2_with fail
                  refine hK.out _ _ ?_ (fun hHeld2 => ?_)
                  · first | assumption | (trivial)
                  clear hK K hHeld
                  have hHeld := hHeld2; clear hHeld2
                  try simp only [Act.put, List.setIfInBounds_toArray, List.set_cons_zero, List.set_cons_succ]
                  refine wpAnyH_ready (rs := [2]) (by kernel_rfl) (by simp) ?_
                  refine (AllReadyH.cons (o := { dst := some 84, op := Op.call { callee := Callee.builtin Builtin.append, args := #[Operand.tmp 82, Operand.tmp 83], argTypes := #[22, 22] }, type := 22, pos := "law.go:83", after := #[{ on := 0, ground := Ground.data }, { on := 1, ground := Ground.data }], guard := none }) rfl (fun K hK => ?_) AllReadyH.nil)
                  (have Gx := Lib.hid ((((G0.out).lit 3 #[] [] 0 (vz.heap.size) rfl rfl rfl).noughtsAt 3 ns (vz.heap.size + 1) (by simp) (by omega)).lit 3 #[] [] 0 (vz.heap.size + 1 + 1) (by simp) rfl rfl); refine step_appends_sep rfl (.tmp 82) (.tmp 83) 22 3 rfl Try.underlying22 Try.infoInt Gx.out 2 rfl rfl As ns cs (3 :: 4 :: r) rfl ((Gx.out.ownInts 16 rfl).2.2) ?_ ?_; (focus omega); intro x2 y2 h9; have G1 := Lib.hid h9; clear h9 Gx)
                  refine hK.out _ _ ?_ (fun hHeld2 => ?_)
                  · first | assumption | (trivial)
                  clear hK K hHeld
                  have hHeld := hHeld2; clear hHeld2
                  try simp only [Act.put, List.setIfInBounds_toArray, List.set_cons_zero, List.set_cons_succ]
                  refine wpAnyH_ready (rs := [5]) (by kernel_rfl) (by simp) ?_
                  refine (AllReadyH.cons (o := { dst := some 87, op := Op.call { callee := Callee.builtin Builtin.append, args := #[Operand.tmp 85, Operand.tmp 86], argTypes := #[22, 22] }, type := 22, pos := "law.go:83", after := #[{ on := 3, ground := Ground.data }, { on := 4, ground := Ground.data }, { on := 2, ground := Ground.chain }], guard := none }) rfl (fun K hK => ?_) AllReadyH.nil)
                  (have Gx := Lib.hid (G1.out); refine step_appends_sep rfl (.tmp 85) (.tmp 86) 22 3 rfl Try.underlying22 Try.infoInt Gx.out 0 rfl rfl As ns cs (3 :: 4 :: r) rfl ((Gx.out.ownInts 16 rfl).2.2) ?_ ?_; (focus omega); intro x5 y5 h9; have G2 := Lib.hid h9; clear h9 Gx; have HF := Lib.hid (((G2.out).sub (l' := [.own 3 x2 (0 + ns) ([] ++ (3 :: 4 :: r)), .own 3 x5 (0 + ns) ([] ++ (3 :: 4 :: r)), .own 3 (.slice (some ⟨vz.heap.size + 1, 0, none⟩) ns ns) ns (List.replicate ns 0), .own 3 (.slice (some ⟨gz, 0, none⟩) ns ns) ns (List.replicate ns 0), .box gc 26 [.slice Sc nc cc, .slice Dc mc dc], .own 3 (.slice Sc nc cc) nc (r), .own 2 (.slice Dc mc dc) mc (foldD k (3 :: 4 :: r) dt [0, 1]), .box gb 26 [.slice Sb nb cb, .slice Db mb db], .own 3 (.slice Sb nb cb) nb (r), .own 2 (.slice Db mb db) mb (foldD k (3 :: 4 :: r) dt [0, 1]), .box ga 26 [.slice Sa na ca, .slice Da ma da], .own 3 (.slice Sa na ca) na (3 :: r), .own 2 (.slice Da ma da) ma (foldD k (3 :: 4 :: r) dt [1]), .box gt 26 [.slice St nt kt, .slice Dt mt jt], .own 3 (.slice St nt kt) nt (3 :: 4 :: r), .own 2 (.slice Dt mt jt) mt dt, .own 3 (.slice As ns cs) ns (3 :: 4 :: r), .tape w.heap.size]) [2, 0, 1, 3, 4, 5, 6, 7, 8, 9, 10, 11, 12, 13, 14, 15, 16, 17] rfl (by decide)).recast (l' := .own 3 x2 ns (3 :: 4 :: r) :: .own 3 x5 ns (3 :: 4 :: r) :: .own 3 (.slice (some ⟨vz.heap.size + 1, 0, none⟩) ns ns) ns (List.replicate ns 0) :: [.own 3 (.slice (some ⟨gz, 0, none⟩) ns ns) ns (List.replicate ns 0), .box gc 26 [.slice Sc nc cc, .slice Dc mc dc], .own 3 (.slice Sc nc cc) nc (r), .own 2 (.slice Dc mc dc) mc (foldD k (3 :: 4 :: r) dt [0, 1]), .box gb 26 [.slice Sb nb cb, .slice Db mb db], .own 3 (.slice Sb nb cb) nb (r), .own 2 (.slice Db mb db) mb (foldD k (3 :: 4 :: r) dt [0, 1]), .box ga 26 [.slice Sa na ca, .slice Da ma da], .own 3 (.slice Sa na ca) na (3 :: r), .own 2 (.slice Da ma da) ma (foldD k (3 :: 4 :: r) dt [1]), .box gt 26 [.slice St nt kt, .slice Dt mt jt], .own 3 (.slice St nt kt) nt (3 :: 4 :: r), .own 2 (.slice Dt mt jt) mt dt, .own 3 (.slice As ns cs) ns (3 :: 4 :: r), .tape w.heap.size]) (by simp)))
                  refine hK.out _ _ ?_ (fun hHeld2 => ?_)
                  · first | assumption | (trivial)
                  clear hK K hHeld
                  have hHeld := hHeld2; clear hHeld2
                  try simp only [Act.put, List.setIfInBounds_toArray, List.set_cons_zero, List.set_cons_succ]
                  first | (refine takeU (i := 9) (oi := { dst := some 16, op := Op.assign (Operand.tmp 84), type := 22, pos := "law.go:83", after := #[{ on := 2, ground := Ground.data }, { on := 5, ground := Ground.chain }, { on := 0, ground := Ground.phase }, { on := 1, ground := Ground.phase }, { on := 2, ground := Ground.phase }, { on := 3, ground := Ground.textOnly Departure.lateStores }, { on := 4, ground := Ground.textOnly Departure.lateStores }, { on := 5, ground := Ground.textOnly Departure.lateStoresUnsure }, { on := 6, ground := Ground.textOnly Departure.lateStores }, { on := 7, ground := Ground.textOnly Departure.lateStoresUnsure }, { on := 8, ground := Ground.textOnly Departure.lateStoresUnsure }], guard := none }) rfl (by kernel_rfl) (by kernel_rfl) (by kernel_rfl) (fun _ _ _ h => h) ?_ hHeld ?_; (focus rfl)) | (refine takeW (i := 9) (oi := { dst := some 16, op := Op.assign (Operand.tmp 84), type := 22, pos := "law.go:83", after := #[{ on := 2, ground := Ground.data }, { on := 5, ground := Ground.chain }, { on := 0, ground := Ground.phase }, { on := 1, ground := Ground.phase }, { on := 2, ground := Ground.phase }, { on := 3, ground := Ground.textOnly Departure.lateStores }, { on := 4, ground := Ground.textOnly Departure.lateStores }, { on := 5, ground := Ground.textOnly Departure.lateStoresUnsure }, { on := 6, ground := Ground.textOnly Departure.lateStores }, { on := 7, ground := Ground.textOnly Departure.lateStoresUnsure }, { on := 8, ground := Ground.textOnly Departure.lateStoresUnsure }], guard := none }) ?_ rfl (by kernel_rfl) (by kernel_rfl) (by kernel_rfl) (fun _ _ _ h => h) ?_ ?_ hHeld ?_; rotate_left; (focus rfl); (focus (intro wq hSq; obtain sq0 := hSq; (first | (go_simp; done) | (go_simp; with_reducible rfl)))))
                  try simp only [Act.put, List.setIfInBounds_toArray, List.set_cons_zero, List.set_cons_succ]
                  first | (refine takeU (i := 10) (oi := { dst := some 17, op := Op.assign (Operand.tmp 87), type := 22, pos := "law.go:83", after := #[{ on := 5, ground := Ground.data }, { on := 9, ground := Ground.chain }, { on := 0, ground := Ground.phase }, { on := 1, ground := Ground.phase }, { on := 2, ground := Ground.phase }, { on := 3, ground := Ground.phase }, { on := 4, ground := Ground.phase }, { on := 5, ground := Ground.phase }, { on := 6, ground := Ground.textOnly Departure.lateStores }, { on := 7, ground := Ground.textOnly Departure.lateStoresUnsure }, { on := 8, ground := Ground.textOnly Departure.lateStoresUnsure }, { on := 9, ground := Ground.phase }], guard := none }) rfl (by kernel_rfl) (by kernel_rfl) (by kernel_rfl) (fun _ _ _ h => h) ?_ hHeld ?_; (focus rfl)) | (refine takeW (i := 10) (oi := { dst := some 17, op := Op.assign (Operand.tmp 87), type := 22, pos := "law.go:83", after := #[{ on := 5, ground := Ground.data }, { on := 9, ground := Ground.chain }, { on := 0, ground := Ground.phase }, { on := 1, ground := Ground.phase }, { on := 2, ground := Ground.phase }, { on := 3, ground := Ground.phase }, { on := 4, ground := Ground.phase }, { on := 5, ground := Ground.phase }, { on := 6, ground := Ground.textOnly Departure.lateStores }, { on := 7, ground := Ground.textOnly Departure.lateStoresUnsure }, { on := 8, ground := Ground.textOnly Departure.lateStoresUnsure }, { on := 9, ground := Ground.phase }], guard := none }) ?_ rfl (by kernel_rfl) (by kernel_rfl) (by kernel_rfl) (fun _ _ _ h => h) ?_ ?_ hHeld ?_; rotate_left; (focus rfl); (focus (intro wq hSq; obtain sq0 := hSq; (first | (go_simp; done) | (go_simp; with_reducible rfl)))))
                  try simp only [Act.put, List.setIfInBounds_toArray, List.set_cons_zero, List.set_cons_succ]
                  first | (refine takeU (i := 11) (oi := { dst := some 18, op := Op.assign (Operand.tmp 90), type := 22, pos := "law.go:83", after := #[{ on := 8, ground := Ground.data }, { on := 10, ground := Ground.chain }, { on := 0, ground := Ground.phase }, { on := 1, ground := Ground.phase }, { on := 2, ground := Ground.phase }, { on := 3, ground := Ground.phase }, { on := 4, ground := Ground.phase }, { on := 5, ground := Ground.phase }, { on := 6, ground := Ground.phase }, { on := 7, ground := Ground.phase }, { on := 8, ground := Ground.phase }, { on := 9, ground := Ground.phase }, { on := 10, ground := Ground.phase }], guard := none }) rfl (by kernel_rfl) (by kernel_rfl) (by kernel_rfl) (fun _ _ _ h => h) ?_ hHeld ?_; (focus rfl)) | (refine takeW (i := 11) (oi := { dst := some 18, op := Op.assign (Operand.tmp 90), type := 22, pos := "law.go:83", after := #[{ on := 8, ground := Ground.data }, { on := 10, ground := Ground.chain }, { on := 0, ground := Ground.phase }, { on := 1, ground := Ground.phase }, { on := 2, ground := Ground.phase }, { on := 3, ground := Ground.phase }, { on := 4, ground := Ground.phase }, { on := 5, ground := Ground.phase }, { on := 6, ground := Ground.phase }, { on := 7, ground := Ground.phase }, { on := 8, ground := Ground.phase }, { on := 9, ground := Ground.phase }, { on := 10, ground := Ground.phase }], guard := none }) ?_ rfl (by kernel_rfl) (by kernel_rfl) (by kernel_rfl) (fun _ _ _ h => h) ?_ ?_ hHeld ?_; rotate_left; (focus rfl); (focus (intro wq hSq; obtain sq0 := hSq; (first | (go_simp; done) | (go_simp; with_reducible rfl)))))
                  try simp only [Act.put, List.setIfInBounds_toArray, List.set_cons_zero, List.set_cons_succ]
                  refine wpAnyH_done (by kernel_rfl) ?_ _
                  go_wp2_with fail
                  go_meet
                  exact ⟨_, _, _, rfl, rfl, rfl, HF.out⟩
        · as_aux_lemma =>
            go_simp
            try go_wp2_with fail
            refine hK.out _ _ ?_ (fun hHeld2 => ?_)
            · first | assumption | (trivial)
            clear hK K hHeld
            have hHeld := hHeld2; clear hHeld2
            try simp only [Act.put, List.setIfInBounds_toArray, List.set_cons_zero, List.set_cons_succ]
            refine wpAnyH_ready (rs := [0, 8]) (by kernel_rfl) (by simp) ?_
            refine (AllReadyH.cons (o := { dst := some 82, op := Op.buildSlice 22 0 #[], type := 22, pos := "law.go:83", after := #[], guard := none }) rfl (fun K hK => ?_) (AllReadyH.cons (o := { dst := some 90, op := Op.makeSlice 22 (Operand.tmp 89) (Operand.tmp 89), type := 22, pos := "law.go:83", after := #[{ on := 7, ground := Ground.data }, { on := 7, ground := Ground.data }], guard := none }) rfl (fun K hK => ?_) AllReadyH.nil))
            · as_aux_lemma =>
                go_simp
                try go_wp2_with fail
                refine hK.out _ _ ?_ (fun hHeld2 => ?_)
                · first | assumption | (trivial)
                clear hK K hHeld
                have hHeld := hHeld2; clear hHeld2
                try simp only [Act.put, List.setIfInBounds_toArray, List.set_cons_zero, List.set_cons_succ]
                refine wpAnyH_ready (rs := [2, 8]) (by kernel_rfl) (by simp) ?_
                refine (AllReadyH.cons (o := { dst := some 84, op := Op.call { callee := Callee.builtin Builtin.append, args := #[Operand.tmp 82, Operand.tmp 83], argTypes := #[22, 22] }, type := 22, pos := "law.go:83", after := #[{ on := 0, ground := Ground.data }, { on := 1, ground := Ground.data }], guard := none }) rfl (fun K hK => ?_) (AllReadyH.cons (o := { dst := some 90, op := Op.makeSlice 22 (Operand.tmp 89) (Operand.tmp 89), type := 22, pos := "law.go:83", after := #[{ on := 7, ground := Ground.data }, { on := 7, ground := Ground.data }], guard := none }) rfl (fun K hK => ?_) AllReadyH.nil))
                · (have Gx := Lib.hid (((G0.out).lit 3 #[] [] 0 (vz.heap.size) rfl rfl rfl).lit 3 #[] [] 0 (vz.heap.size + 1) (by simp) rfl rfl); refine step_appends_sep rfl (.tmp 82) (.tmp 83) 22 3 rfl Try.underlying22 Try.infoInt Gx.out 0 rfl rfl As ns cs (3 :: 4 :: r) rfl ((Gx.out.ownInts 15 rfl).2.2) ?_ ?_; (focus omega); intro x2 y2 h9; have G1 := Lib.hid h9; clear h9 Gx)
                  refine hK.out _ _ ?_ (fun hHeld2 => ?_)
                  · first | assumption | (trivial)
                  clear hK K hHeld
                  have hHeld := hHeld2; clear hHeld2
                  try simp only [Act.put, List.setIfInBounds_toArray, List.set_cons_zero, List.set_cons_succ]
                  refine wpAnyH_ready (rs := [5, 8]) (by kernel_rfl) (by simp) ?_
                  refine (AllReadyH.cons (o := { dst := some 87, op := Op.call { callee := Callee.builtin Builtin.append, args := #[Operand.tmp 85, Operand.tmp 86], argTypes := #[22, 22] }, type := 22, pos := "law.go:83", after := #[{ on := 3, ground := Ground.data }, { on := 4, ground := Ground.data }, { on := 2, ground := Ground.chain }], guard := none }) rfl (fun K hK => ?_) (AllReadyH.cons (o := { dst := some 90, op := Op.makeSlice 22 (Operand.tmp 89) (Operand.tmp 89), type := 22, pos := "law.go:83", after := #[{ on := 7, ground := Ground.data }, { on := 7, ground := Ground.data }], guard := none }) rfl (fun K hK => ?_) AllReadyH.nil))
                  · (have Gx := Lib.hid (G1.out); refine step_appends_sep rfl (.tmp 85) (.tmp 86) 22 3 rfl Try.underlying22 Try.infoInt Gx.out 1 rfl rfl As ns cs (3 :: 4 :: r) rfl ((Gx.out.ownInts 15 rfl).2.2) ?_ ?_; (focus omega); intro x5 y5 h9; have G2 := Lib.hid h9; clear h9 Gx)
                    refine hK.out _ _ ?_ (fun hHeld2 => ?_)
                    · first | assumption | (trivial)
                    clear hK K hHeld
                    have hHeld := hHeld2; clear hHeld2
                    try simp only [Act.put, List.setIfInBounds_toArray, List.set_cons_zero, List.set_cons_succ]
                    first | (refine takeU (i := 9) (oi := { dst := some 16, op := Op.assign (Operand.tmp 84), type := 22, pos := "law.go:83", after := #[{ on := 2, ground := Ground.data }, { on := 5, ground := Ground.chain }, { on := 0, ground := Ground.phase }, { on := 1, ground := Ground.phase }, { on := 2, ground := Ground.phase }, { on := 3, ground := Ground.textOnly Departure.lateStores }, { on := 4, ground := Ground.textOnly Departure.lateStores }, { on := 5, ground := Ground.textOnly Departure.lateStoresUnsure }, { on := 6, ground := Ground.textOnly Departure.lateStores }, { on := 7, ground := Ground.textOnly Departure.lateStoresUnsure }, { on := 8, ground := Ground.textOnly Departure.lateStoresUnsure }], guard := none }) rfl (by kernel_rfl) (by kernel_rfl) (by kernel_rfl) (fun _ _ _ h => h) ?_ hHeld ?_; (focus rfl)) | (refine takeW (i := 9) (oi := { dst := some 16, op := Op.assign (Operand.tmp 84), type := 22, pos := "law.go:83", after := #[{ on := 2, ground := Ground.data }, { on := 5, ground := Ground.chain }, { on := 0, ground := Ground.phase }, { on := 1, ground := Ground.phase }, { on := 2, ground := Ground.phase }, { on := 3, ground := Ground.textOnly Departure.lateStores }, { on := 4, ground := Ground.textOnly Departure.lateStores }, { on := 5, ground := Ground.textOnly Departure.lateStoresUnsure }, { on := 6, ground := Ground.textOnly Departure.lateStores }, { on := 7, ground := Ground.textOnly Departure.lateStoresUnsure }, { on := 8, ground := Ground.textOnly Departure.lateStoresUnsure }], guard := none }) ?_ rfl (by kernel_rfl) (by kernel_rfl) (by kernel_rfl) (fun _ _ _ h => h) ?_ ?_ hHeld ?_; rotate_left; (focus rfl); (focus (intro wq hSq; obtain sq0 := hSq; (first | (go_simp; done) | (go_simp; with_reducible rfl)))))
                    try simp only [Act.put, List.setIfInBounds_toArray, List.set_cons_zero, List.set_cons_succ]
                    first | (refine takeU (i := 10) (oi := { dst := some 17, op := Op.assign (Operand.tmp 87), type := 22, pos := "law.go:83", after := #[{ on := 5, ground := Ground.data }, { on := 9, ground := Ground.chain }, { on := 0, ground := Ground.phase }, { on := 1, ground := Ground.phase }, { on := 2, ground := Ground.phase }, { on := 3, ground := Ground.phase }, { on := 4, ground := Ground.phase }, { on := 5, ground := Ground.phase }, { on := 6, ground := Ground.textOnly Departure.lateStores }, { on := 7, ground := Ground.textOnly Departure.lateStoresUnsure }, { on := 8, ground := Ground.textOnly Departure.lateStoresUnsure }, { on := 9, ground := Ground.phase }], guard := none }) rfl (by kernel_rfl) (by kernel_rfl) (by kernel_rfl) (fun _ _ _ h => h) ?_ hHeld ?_; (focus rfl)) | (refine takeW (i := 10) (oi := { dst := some 17, op := Op.assign (Operand.tmp 87), type := 22, pos := "law.go:83", after := #[{ on := 5, ground := Ground.data }, { on := 9, ground := Ground.chain }, { on := 0, ground := Ground.phase }, { on := 1, ground := Ground.phase }, { on := 2, ground := Ground.phase }, { on := 3, ground := Ground.phase }, { on := 4, ground := Ground.phase }, { on := 5, ground := Ground.phase }, { on := 6, ground := Ground.textOnly Departure.lateStores }, { on := 7, ground := Ground.textOnly Departure.lateStoresUnsure }, { on := 8, ground := Ground.textOnly Departure.lateStoresUnsure }, { on := 9, ground := Ground.phase }], guard := none }) ?_ rfl (by kernel_rfl) (by kernel_rfl) (by kernel_rfl) (fun _ _ _ h => h) ?_ ?_ hHeld ?_; rotate_left; (focus rfl); (focus (intro wq hSq; obtain sq0 := hSq; (first | (go_simp; done) | (go_simp; with_reducible rfl)))))
                    try simp only [Act.put, List.setIfInBounds_toArray, List.set_cons_zero, List.set_cons_succ]
                    refine wpAnyH_ready (rs := [8]) (by kernel_rfl) (by simp) ?_
                    refine (AllReadyH.cons (o := { dst := some 90, op := Op.makeSlice 22 (Operand.tmp 89) (Operand.tmp 89), type := 22, pos := "law.go:83", after := #[{ on := 7, ground := Ground.data }, { on := 7, ground := Ground.data }], guard := none }) rfl (fun K hK => ?_) AllReadyH.nil)
                    have HF := Lib.hid ((((G2.out).noughtsAt 3 ns (y5.heap.size) rfl (by omega)).sub (l' := [.own 3 x2 (0 + ns) ([] ++ (3 :: 4 :: r)), .own 3 x5 (0 + ns) ([] ++ (3 :: 4 :: r)), .own 3 (.slice (some ⟨y5.heap.size, 0, none⟩) ns ns) ns (List.replicate ns 0), .own 3 (.slice (some ⟨gz, 0, none⟩) ns ns) ns (List.replicate ns 0), .box gc 26 [.slice Sc nc cc, .slice Dc mc dc], .own 3 (.slice Sc nc cc) nc (r), .own 2 (.slice Dc mc dc) mc (foldD k (3 :: 4 :: r) dt [0, 1]), .box gb 26 [.slice Sb nb cb, .slice Db mb db], .own 3 (.slice Sb nb cb) nb (r), .own 2 (.slice Db mb db) mb (foldD k (3 :: 4 :: r) dt [0, 1]), .box ga 26 [.slice Sa na ca, .slice Da ma da], .own 3 (.slice Sa na ca) na (3 :: r), .own 2 (.slice Da ma da) ma (foldD k (3 :: 4 :: r) dt [1]), .box gt 26 [.slice St nt kt, .slice Dt mt jt], .own 3 (.slice St nt kt) nt (3 :: 4 :: r), .own 2 (.slice Dt mt jt) mt dt, .own 3 (.slice As ns cs) ns (3 :: 4 :: r), .tape w.heap.size]) [1, 2, 0, 3, 4, 5, 6, 7, 8, 9, 10, 11, 12, 13, 14, 15, 16, 17] rfl (by decide)).recast (l' := .own 3 x2 ns (3 :: 4 :: r) :: .own 3 x5 ns (3 :: 4 :: r) :: .own 3 (.slice (some ⟨y5.heap.size, 0, none⟩) ns ns) ns (List.replicate ns 0) :: [.own 3 (.slice (some ⟨gz, 0, none⟩) ns ns) ns (List.replicate ns 0), .box gc 26 [.slice Sc nc cc, .slice Dc mc dc], .own 3 (.slice Sc nc cc) nc (r), .own 2 (.slice Dc mc dc) mc (foldD k (3 :: 4 :: r) dt [0, 1]), .box gb 26 [.slice Sb nb cb, .slice Db mb db], .own 3 (.slice Sb nb cb) nb (r), .own 2 (.slice Db mb db) mb (foldD k (3 :: 4 :: r) dt [0, 1]), .box ga 26 [.slice Sa na ca, .slice Da ma da], .own 3 (.slice Sa na ca) na (3 :: r), .own 2 (.slice Da ma da) ma (foldD k (3 :: 4 :: r) dt [1]), .box gt 26 [.slice St nt kt, .slice Dt mt jt], .own 3 (.slice St nt kt) nt (3 :: 4 :: r), .own 2 (.slice Dt mt jt) mt dt, .own 3 (.slice As ns cs) ns (3 :: 4 :: r), .tape w.heap.size]) (by simp))
                    go_simp
                    try go_wp2_with fail
                    refine hK.out _ _ ?_ (fun hHeld2 => ?_)
                    · first | assumption | (trivial)
                    clear hK K hHeld
                    have hHeld := hHeld2; clear hHeld2
                    try simp only [Act.put, List.setIfInBounds_toArray, List.set_cons_zero, List.set_cons_succ]
                    first | (refine takeU (i := 11) (oi := { dst := some 18, op := Op.assign (Operand.tmp 90), type := 22, pos := "law.go:83", after := #[{ on := 8, ground := Ground.data }, { on := 10, ground := Ground.chain }, { on := 0, ground := Ground.phase }, { on := 1, ground := Ground.phase }, { on := 2, ground := Ground.phase }, { on := 3, ground := Ground.phase }, { on := 4, ground := Ground.phase }, { on := 5, ground := Ground.phase }, { on := 6, ground := Ground.phase }, { on := 7, ground := Ground.phase }, { on := 8, ground := Ground.phase }, { on := 9, ground := Ground.phase }, { on := 10, ground := Ground.phase }], guard := none }) rfl (by kernel_rfl) (by kernel_rfl) (by kernel_rfl) (fun _ _ _ h => h) ?_ hHeld ?_; (focus rfl)) | (refine takeW (i := 11) (oi := { dst := some 18, op := Op.assign (Operand.tmp 90), type := 22, pos := "law.go:83", after := #[{ on := 8, ground := Ground.data }, { on := 10, ground := Ground.chain }, { on := 0, ground := Ground.phase }, { on := 1, ground := Ground.phase }, { on := 2, ground := Ground.phase }, { on := 3, ground := Ground.phase }, { on := 4, ground := Ground.phase }, { on := 5, ground := Ground.phase }, { on := 6, ground := Ground.phase }, { on := 7, ground := Ground.phase }, { on := 8, ground := Ground.phase }, { on := 9, ground := Ground.phase }, { on := 10, ground := Ground.phase }], guard := none }) ?_ rfl (by kernel_rfl) (by kernel_rfl) (by kernel_rfl) (fun _ _ _ h => h) ?_ ?_ hHeld ?_; rotate_left; (focus rfl); (focus (intro wq hSq; obtain sq0 := hSq; (first | (go_simp; done) | (go_simp; with_reducible rfl)))))
                    try simp only [Act.put, List.setIfInBounds_toArray, List.set_cons_zero, List.set_cons_succ]
                    refine wpAnyH_done (by kernel_rfl) ?_ _
                    go_wp2_with fail
                    go_meet
                    exact ⟨_, _, _, rfl, rfl, rfl, HF.out⟩
                  · go_simp
                    try go_wp2_with fail
                    refine hK.out _ _ ?_ (fun hHeld2 => ?_)
                    · first | assumption | (trivial)
                    clear hK K hHeld
                    have hHeld := hHeld2; clear hHeld2
                    try simp only [Act.put, List.setIfInBounds_toArray, List.set_cons_zero, List.set_cons_succ]
                    refine wpAnyH_ready (rs := [5]) (by kernel_rfl) (by simp) ?_
                    refine (AllReadyH.cons (o := { dst := some 87, op := Op.call { callee := Callee.builtin Builtin.append, args := #[Operand.tmp 85, Operand.tmp 86], argTypes := #[22, 22] }, type := 22, pos := "law.go:83", after := #[{ on := 3, ground := Ground.data }, { on := 4, ground := Ground.data }, { on := 2, ground := Ground.chain }], guard := none }) rfl (fun K hK => ?_) AllReadyH.nil)
                    (have Gx := Lib.hid ((G1.out).noughtsAt 3 ns (y2.heap.size) rfl (by omega)); refine step_appends_sep rfl (.tmp 85) (.tmp 86) 22 3 rfl Try.underlying22 Try.infoInt Gx.out 2 rfl rfl As ns cs (3 :: 4 :: r) rfl ((Gx.out.ownInts 16 rfl).2.2) ?_ ?_; (focus omega); intro x5 y5 h9; have G2 := Lib.hid h9; clear h9 Gx; have HF := Lib.hid (((G2.out).sub (l' := [.own 3 x2 (0 + ns) ([] ++ (3 :: 4 :: r)), .own 3 x5 (0 + ns) ([] ++ (3 :: 4 :: r)), .own 3 (.slice (some ⟨y2.heap.size, 0, none⟩) ns ns) ns (List.replicate ns 0), .own 3 (.slice (some ⟨gz, 0, none⟩) ns ns) ns (List.replicate ns 0), .box gc 26 [.slice Sc nc cc, .slice Dc mc dc], .own 3 (.slice Sc nc cc) nc (r), .own 2 (.slice Dc mc dc) mc (foldD k (3 :: 4 :: r) dt [0, 1]), .box gb 26 [.slice Sb nb cb, .slice Db mb db], .own 3 (.slice Sb nb cb) nb (r), .own 2 (.slice Db mb db) mb (foldD k (3 :: 4 :: r) dt [0, 1]), .box ga 26 [.slice Sa na ca, .slice Da ma da], .own 3 (.slice Sa na ca) na (3 :: r), .own 2 (.slice Da ma da) ma (foldD k (3 :: 4 :: r) dt [1]), .box gt 26 [.slice St nt kt, .slice Dt mt jt], .own 3 (.slice St nt kt) nt (3 :: 4 :: r), .own 2 (.slice Dt mt jt) mt dt, .own 3 (.slice As ns cs) ns (3 :: 4 :: r), .tape w.heap.size]) [1, 2, 0, 3, 4, 5, 6, 7, 8, 9, 10, 11, 12, 13, 14, 15, 16, 17] rfl (by decide)).recast (l' := .own 3 x2 ns (3 :: 4 :: r) :: .own 3 x5 ns (3 :: 4 :: r) :: .own 3 (.slice (some ⟨y2.heap.size, 0, none⟩) ns ns) ns (List.replicate ns 0) :: [.own 3 (.slice (some ⟨gz, 0, none⟩) ns ns) ns (List.replicate ns 0), .box gc 26 [.slice Sc nc cc, .slice Dc mc dc], .own 3 (.slice Sc nc cc) nc (r), .own 2 (.slice Dc mc dc) mc (foldD k (3 :: 4 :: r) dt [0, 1]), .box gb 26 [.slice Sb nb cb, .slice Db mb db], .own 3 (.slice Sb nb cb) nb (r), .own 2 (.slice Db mb db) mb (foldD k (3 :: 4 :: r) dt [0, 1]), .box ga 26 [.slice Sa na ca, .slice Da ma da], .own 3 (.slice Sa na ca) na (3 :: r), .own 2 (.slice Da ma da) ma (foldD k (3 :: 4 :: r) dt [1]), .box gt 26 [.slice St nt kt, .slice Dt mt jt], .own 3 (.slice St nt kt) nt (3 :: 4 :: r), .own 2 (.slice Dt mt jt) mt dt, .own 3 (.slice As ns cs) ns (3 :: 4 :: r), .tape w.heap.size]) (by simp)))
                    refine hK.out _ _ ?_ (fun hHeld2 => ?_)
                    · first | assumption | (trivial)
                    clear hK K hHeld
                    have hHeld := hHeld2; clear hHeld2
                    try simp only [Act.put, List.setIfInBounds_toArray, List.set_cons_zero, List.set_cons_succ]
                    first | (refine takeU (i := 9) (oi := { dst := some 16, op := Op.assign (Operand.tmp 84), type := 22, pos := "law.go:83", after := #[{ on := 2, ground := Ground.data }, { on := 5, ground := Ground.chain }, { on := 0, ground := Ground.phase }, { on := 1, ground := Ground.phase }, { on := 2, ground := Ground.phase }, { on := 3, ground := Ground.textOnly Departure.lateStores }, { on := 4, ground := Ground.textOnly Departure.lateStores }, { on := 5, ground := Ground.textOnly Departure.lateStoresUnsure }, { on := 6, ground := Ground.textOnly Departure.lateStores }, { on := 7, ground := Ground.textOnly Departure.lateStoresUnsure }, { on := 8, ground := Ground.textOnly Departure.lateStoresUnsure }], guard := none }) rfl (by kernel_rfl) (by kernel_rfl) (by kernel_rfl) (fun _ _ _ h => h) ?_ hHeld ?_; (focus rfl)) | (refine takeW (i := 9) (oi := { dst := some 16, op := Op.assign (Operand.tmp 84), type := 22, pos := "law.go:83", after := #[{ on := 2, ground := Ground.data }, { on := 5, ground := Ground.chain }, { on := 0, ground := Ground.phase }, { on := 1, ground := Ground.phase }, { on := 2, ground := Ground.phase }, { on := 3, ground := Ground.textOnly Departure.lateStores }, { on := 4, ground := Ground.textOnly Departure.lateStores }, { on := 5, ground := Ground.textOnly Departure.lateStoresUnsure }, { on := 6, ground := Ground.textOnly Departure.lateStores }, { on := 7, ground := Ground.textOnly Departure.lateStoresUnsure }, { on := 8, ground := Ground.textOnly Departure.lateStoresUnsure }], guard := none }) ?_ rfl (by kernel_rfl) (by kernel_rfl) (by kernel_rfl) (fun _ _ _ h => h) ?_ ?_ hHeld ?_; rotate_left; (focus rfl); (focus (intro wq hSq; obtain sq0 := hSq; (first | (go_simp; done) | (go_simp; with_reducible rfl)))))
                    try simp only [Act.put, List.setIfInBounds_toArray, List.set_cons_zero, List.set_cons_succ]
                    first | (refine takeU (i := 10) (oi := { dst := some 17, op := Op.assign (Operand.tmp 87), type := 22, pos := "law.go:83", after := #[{ on := 5, ground := Ground.data }, { on := 9, ground := Ground.chain }, { on := 0, ground := Ground.phase }, { on := 1, ground := Ground.phase }, { on := 2, ground := Ground.phase }, { on := 3, ground := Ground.phase }, { on := 4, ground := Ground.phase }, { on := 5, ground := Ground.phase }, { on := 6, ground := Ground.textOnly Departure.lateStores }, { on := 7, ground := Ground.textOnly Departure.lateStoresUnsure }, { on := 8, ground := Ground.textOnly Departure.lateStoresUnsure }, { on := 9, ground := Ground.phase }], guard := none }) rfl (by kernel_rfl) (by kernel_rfl) (by kernel_rfl) (fun _ _ _ h => h) ?_ hHeld ?_; (focus rfl)) | (refine takeW (i := 10) (oi := { dst := some 17, op := Op.assign (Operand.tmp 87), type := 22, pos := "law.go:83", after := #[{ on := 5, ground := Ground.data }, { on := 9, ground := Ground.chain }, { on := 0, ground := Ground.phase }, { on := 1, ground := Ground.phase }, { on := 2, ground := Ground.phase }, { on := 3, ground := Ground.phase }, { on := 4, ground := Ground.phase }, { on := 5, ground := Ground.phase }, { on := 6, ground := Ground.textOnly Departure.lateStores }, { on := 7, ground := Ground.textOnly Departure.lateStoresUnsure }, { on := 8, ground := Ground.textOnly Departure.lateStoresUnsure }, { on := 9, ground := Ground.phase }], guard := none }) ?_ rfl (by kernel_rfl) (by kernel_rfl) (by kernel_rfl) (fun _ _ _ h => h) ?_ ?_ hHeld ?_; rotate_left; (focus rfl); (focus (intro wq hSq; obtain sq0 := hSq; (first | (go_simp; done) | (go_simp; with_reducible rfl)))))
                    try simp only [Act.put, List.setIfInBounds_toArray, List.set_cons_zero, List.set_cons_succ]
                    first | (refine takeU (i := 11) (oi := { dst := some 18, op := Op.assign (Operand.tmp 90), type := 22, pos := "law.go:83", after := #[{ on := 8, ground := Ground.data }, { on := 10, ground := Ground.chain }, { on := 0, ground := Ground.phase }, { on := 1, ground := Ground.phase }, { on := 2, ground := Ground.phase }, { on := 3, ground := Ground.phase }, { on := 4, ground := Ground.phase }, { on := 5, ground := Ground.phase }, { on := 6, ground := Ground.phase }, { on := 7, ground := Ground.phase }, { on := 8, ground := Ground.phase }, { on := 9, ground := Ground.phase }, { on := 10, ground := Ground.phase }], guard := none }) rfl (by kernel_rfl) (by kernel_rfl) (by kernel_rfl) (fun _ _ _ h => h) ?_ hHeld ?_; (focus rfl)) | (refine takeW (i := 11) (oi := { dst := some 18, op := Op.assign (Operand.tmp 90), type := 22, pos := "law.go:83", after := #[{ on := 8, ground := Ground.data }, { on := 10, ground := Ground.chain }, { on := 0, ground := Ground.phase }, { on := 1, ground := Ground.phase }, { on := 2, ground := Ground.phase }, { on := 3, ground := Ground.phase }, { on := 4, ground := Ground.phase }, { on := 5, ground := Ground.phase }, { on := 6, ground := Ground.phase }, { on := 7, ground := Ground.phase }, { on := 8, ground := Ground.phase }, { on := 9, ground := Ground.phase }, { on := 10, ground := Ground.phase }], guard := none }) ?_ rfl (by kernel_rfl) (by kernel_rfl) (by kernel_rfl) (fun _ _ _ h => h) ?_ ?_ hHeld ?_; rotate_left; (focus rfl); (focus (intro wq hSq; obtain sq0 := hSq; (first | (go_simp; done) | (go_simp; with_reducible rfl)))))
                    try simp only [Act.put, List.setIfInBounds_toArray, List.set_cons_zero, List.set_cons_succ]
                    refine wpAnyH_done (by kernel_rfl) ?_ _
                    go_wp2_with fail
                    go_meet
                    exact ⟨_, _, _, rfl, rfl, rfl, HF.out⟩
                · go_simp
                  try go_wp2_with fail
                  refine hK.out _ _ ?_ (fun hHeld2 => ?_)
                  · first | assumption | (trivial)
                  clear hK K hHeld
                  have hHeld := hHeld2; clear hHeld2
                  try simp only [Act.put, List.setIfInBounds_toArray, List.set_cons_zero, List.set_cons_succ]
                  refine wpAnyH_ready (rs := [2]) (by kernel_rfl) (by simp) ?_
                  refine (AllReadyH.cons (o := { dst := some 84, op := Op.call { callee := Callee.builtin Builtin.append, args := #[Operand.tmp 82, Operand.tmp 83], argTypes := #[22, 22] }, type := 22, pos := "law.go:83", after := #[{ on := 0, ground := Ground.data }, { on := 1, ground := Ground.data }], guard := none }) rfl (fun K hK => ?_) AllReadyH.nil)
                  (have Gx := Lib.hid ((((G0.out).lit 3 #[] [] 0 (vz.heap.size) rfl rfl rfl).lit 3 #[] [] 0 (vz.heap.size + 1) (by simp) rfl rfl).noughtsAt 3 ns (vz.heap.size + 1 + 1) (by simp) (by omega)); refine step_appends_sep rfl (.tmp 82) (.tmp 83) 22 3 rfl Try.underlying22 Try.infoInt Gx.out 1 rfl rfl As ns cs (3 :: 4 :: r) rfl ((Gx.out.ownInts 16 rfl).2.2) ?_ ?_; (focus omega); intro x2 y2 h9; have G1 := Lib.hid h9; clear h9 Gx)
                  refine hK.out _ _ ?_ (fun hHeld2 => ?_)
                  · first | assumption | (trivial)
                  clear hK K hHeld
                  have hHeld := hHeld2; clear hHeld2
                  try simp only [Act.put, List.setIfInBounds_toArray, List.set_cons_zero, List.set_cons_succ]
                  refine wpAnyH_ready (rs := [5]) (by kernel_rfl) (by simp) ?_
                  refine (AllReadyH.cons (o := { dst := some 87, op := Op.call { callee := Callee.builtin Builtin.append, args := #[Operand.tmp 85, Operand.tmp 86], argTypes := #[22, 22] }, type := 22, pos := "law.go:83", after := #[{ on := 3, ground := Ground.data }, { on := 4, ground := Ground.data }, { on := 2, ground := Ground.chain }], guard := none }) rfl (fun K hK => ?_) AllReadyH.nil)
                  (have Gx := Lib.hid (G1.out); refine step_appends_sep rfl (.tmp 85) (.tmp 86) 22 3 rfl Try.underlying22 Try.infoInt Gx.out 2 rfl rfl As ns cs (3 :: 4 :: r) rfl ((Gx.out.ownInts 16 rfl).2.2) ?_ ?_; (focus omega); intro x5 y5 h9; have G2 := Lib.hid h9; clear h9 Gx; have HF := Lib.hid (((G2.out).sub (l' := [.own 3 x2 (0 + ns) ([] ++ (3 :: 4 :: r)), .own 3 x5 (0 + ns) ([] ++ (3 :: 4 :: r)), .own 3 (.slice (some ⟨vz.heap.size + 1 + 1, 0, none⟩) ns ns) ns (List.replicate ns 0), .own 3 (.slice (some ⟨gz, 0, none⟩) ns ns) ns (List.replicate ns 0), .box gc 26 [.slice Sc nc cc, .slice Dc mc dc], .own 3 (.slice Sc nc cc) nc (r), .own 2 (.slice Dc mc dc) mc (foldD k (3 :: 4 :: r) dt [0, 1]), .box gb 26 [.slice Sb nb cb, .slice Db mb db], .own 3 (.slice Sb nb cb) nb (r), .own 2 (.slice Db mb db) mb (foldD k (3 :: 4 :: r) dt [0, 1]), .box ga 26 [.slice Sa na ca, .slice Da ma da], .own 3 (.slice Sa na ca) na (3 :: r), .own 2 (.slice Da ma da) ma (foldD k (3 :: 4 :: r) dt [1]), .box gt 26 [.slice St nt kt, .slice Dt mt jt], .own 3 (.slice St nt kt) nt (3 :: 4 :: r), .own 2 (.slice Dt mt jt) mt dt, .own 3 (.slice As ns cs) ns (3 :: 4 :: r), .tape w.heap.size]) [1, 2, 0, 3, 4, 5, 6, 7, 8, 9, 10, 11, 12, 13, 14, 15, 16, 17] rfl (by decide)).recast (l' := .own 3 x2 ns (3 :: 4 :: r) :: .own 3 x5 ns (3 :: 4 :: r) :: .own 3 (.slice (some ⟨vz.heap.size + 1 + 1, 0, none⟩) ns ns) ns (List.replicate ns 0) :: [.own 3 (.slice (some ⟨gz, 0, none⟩) ns ns) ns (List.replicate ns 0), .box gc 26 [.slice Sc nc cc, .slice Dc mc dc], .own 3 (.slice Sc nc cc) nc (r), .own 2 (.slice Dc mc dc) mc (foldD k (3 :: 4 :: r) dt [0, 1]), .box gb 26 [.slice Sb nb cb, .slice Db mb db], .own 3 (.slice Sb nb cb) nb (r), .own 2 (.slice Db mb db) mb (foldD k (3 :: 4 :: r) dt [0, 1]), .box ga 26 [.slice Sa na ca, .slice Da ma da], .own 3 (.slice Sa na ca) na (3 :: r), .own 2 (.slice Da ma da) ma (foldD k (3 :: 4 :: r) dt [1]), .box gt 26 [.slice St nt kt, .slice Dt mt jt], .own 3 (.slice St nt kt) nt (3 :: 4 :: r), .own 2 (.slice Dt mt jt) mt dt, .own 3 (.slice As ns cs) ns (3 :: 4 :: r), .tape w.heap.size]) (by simp)))
                  refine hK.out _ _ ?_ (fun hHeld2 => ?_)
                  · first | assumption | (trivial)
                  clear hK K hHeld
                  have hHeld := hHeld2; clear hHeld2
                  try simp only [Act.put, List.setIfInBounds_toArray, List.set_cons_zero, List.set_cons_succ]
                  first | (refine takeU (i := 9) (oi := { dst := some 16, op := Op.assign (Operand.tmp 84), type := 22, pos := "law.go:83", after := #[{ on := 2, ground := Ground.data }, { on := 5, ground := Ground.chain }, { on := 0, ground := Ground.phase }, { on := 1, ground := Ground.phase }, { on := 2, ground := Ground.phase }, { on := 3, ground := Ground.textOnly Departure.lateStores }, { on := 4, ground := Ground.textOnly Departure.lateStores }, { on := 5, ground := Ground.textOnly Departure.lateStoresUnsure }, { on := 6, ground := Ground.textOnly Departure.lateStores }, { on := 7, ground := Ground.textOnly Departure.lateStoresUnsure }, { on := 8, ground := Ground.textOnly Departure.lateStoresUnsure }], guard := none }) rfl (by kernel_rfl) (by kernel_rfl) (by kernel_rfl) (fun _ _ _ h => h) ?_ hHeld ?_; (focus rfl)) | (refine takeW (i := 9) (oi := { dst := some 16, op := Op.assign (Operand.tmp 84), type := 22, pos := "law.go:83", after := #[{ on := 2, ground := Ground.data }, { on := 5, ground := Ground.chain }, { on := 0, ground := Ground.phase }, { on := 1, ground := Ground.phase }, { on := 2, ground := Ground.phase }, { on := 3, ground := Ground.textOnly Departure.lateStores }, { on := 4, ground := Ground.textOnly Departure.lateStores }, { on := 5, ground := Ground.textOnly Departure.lateStoresUnsure }, { on := 6, ground := Ground.textOnly Departure.lateStores }, { on := 7, ground := Ground.textOnly Departure.lateStoresUnsure }, { on := 8, ground := Ground.textOnly Departure.lateStoresUnsure }], guard := none }) ?_ rfl (by kernel_rfl) (by kernel_rfl) (by kernel_rfl) (fun _ _ _ h => h) ?_ ?_ hHeld ?_; rotate_left; (focus rfl); (focus (intro wq hSq; obtain sq0 := hSq; (first | (go_simp; done) | (go_simp; with_reducible rfl)))))
                  try simp only [Act.put, List.setIfInBounds_toArray, List.set_cons_zero, List.set_cons_succ]
                  first | (refine takeU (i := 10) (oi := { dst := some 17, op := Op.assign (Operand.tmp 87), type := 22, pos := "law.go:83", after := #[{ on := 5, ground := Ground.data }, { on := 9, ground := Ground.chain }, { on := 0, ground := Ground.phase }, { on := 1, ground := Ground.phase }, { on := 2, ground := Ground.phase }, { on := 3, ground := Ground.phase }, { on := 4, ground := Ground.phase }, { on := 5, ground := Ground.phase }, { on := 6, ground := Ground.textOnly Departure.lateStores }, { on := 7, ground := Ground.textOnly Departure.lateStoresUnsure }, { on := 8, ground := Ground.textOnly Departure.lateStoresUnsure }, { on := 9, ground := Ground.phase }], guard := none }) rfl (by kernel_rfl) (by kernel_rfl) (by kernel_rfl) (fun _ _ _ h => h) ?_ hHeld ?_; (focus rfl)) | (refine takeW (i := 10) (oi := { dst := some 17, op := Op.assign (Operand.tmp 87), type := 22, pos := "law.go:83", after := #[{ on := 5, ground := Ground.data }, { on := 9, ground := Ground.chain }, { on := 0, ground := Ground.phase }, { on := 1, ground := Ground.phase }, { on := 2, ground := Ground.phase }, { on := 3, ground := Ground.phase }, { on := 4, ground := Ground.phase }, { on := 5, ground := Ground.phase }, { on := 6, ground := Ground.textOnly Departure.lateStores }, { on := 7, ground := Ground.textOnly Departure.lateStoresUnsure }, { on := 8, ground := Ground.textOnly Departure.lateStoresUnsure }, { on := 9, ground := Ground.phase }], guard := none }) ?_ rfl (by kernel_rfl) (by kernel_rfl) (by kernel_rfl) (fun _ _ _ h => h) ?_ ?_ hHeld ?_; rotate_left; (focus rfl); (focus (intro wq hSq; obtain sq0 := hSq; (first | (go_simp; done) | (go_simp; with_reducible rfl)))))
                  try simp only [Act.put, List.setIfInBounds_toArray, List.set_cons_zero, List.set_cons_succ]
                  first | (refine takeU (i := 11) (oi := { dst := some 18, op := Op.assign (Operand.tmp 90), type := 22, pos := "law.go:83", after := #[{ on := 8, ground := Ground.data }, { on := 10, ground := Ground.chain }, { on := 0, ground := Ground.phase }, { on := 1, ground := Ground.phase }, { on := 2, ground := Ground.phase }, { on := 3, ground := Ground.phase }, { on := 4, ground := Ground.phase }, { on := 5, ground := Ground.phase }, { on := 6, ground := Ground.phase }, { on := 7, ground := Ground.phase }, { on := 8, ground := Ground.phase }, { on := 9, ground := Ground.phase }, { on := 10, ground := Ground.phase }], guard := none }) rfl (by kernel_rfl) (by kernel_rfl) (by kernel_rfl) (fun _ _ _ h => h) ?_ hHeld ?_; (focus rfl)) | (refine takeW (i := 11) (oi := { dst := some 18, op := Op.assign (Operand.tmp 90), type := 22, pos := "law.go:83", after := #[{ on := 8, ground := Ground.data }, { on := 10, ground := Ground.chain }, { on := 0, ground := Ground.phase }, { on := 1, ground := Ground.phase }, { on := 2, ground := Ground.phase }, { on := 3, ground := Ground.phase }, { on := 4, ground := Ground.phase }, { on := 5, ground := Ground.phase }, { on := 6, ground := Ground.phase }, { on := 7, ground := Ground.phase }, { on := 8, ground := Ground.phase }, { on := 9, ground := Ground.phase }, { on := 10, ground := Ground.phase }], guard := none }) ?_ rfl (by kernel_rfl) (by kernel_rfl) (by kernel_rfl) (fun _ _ _ h => h) ?_ ?_ hHeld ?_; rotate_left; (focus rfl); (focus (intro wq hSq; obtain sq0 := hSq; (first | (go_simp; done) | (go_simp; with_reducible rfl)))))
                  try simp only [Act.put, List.setIfInBounds_toArray, List.set_cons_zero, List.set_cons_succ]
                  refine wpAnyH_done (by kernel_rfl) ?_ _
                  go_wp2_with fail
                  go_meet
                  exact ⟨_, _, _, rfl, rfl, rfl, HF.out⟩
            · as_aux_lemma =>
                go_simp
                try go_wp2_with fail
                refine hK.out _ _ ?_ (fun hHeld2 => ?_)
                · first | assumption | (trivial)
                clear hK K hHeld
                have hHeld := hHeld2; clear hHeld2
                try simp only [Act.put, List.setIfInBounds_toArray, List.set_cons_zero, List.set_cons_succ]
                refine wpAnyH_ready (rs := [0]) (by kernel_rfl) (by simp) ?_
                refine (AllReadyH.cons (o := { dst := some 82, op := Op.buildSlice 22 0 #[], type := 22, pos := "law.go:83", after := #[], guard := none }) rfl (fun K hK => ?_) AllReadyH.nil)
                go_simp
                try go_wp2_with fail
                refine hK.out _ _ ?_ (fun hHeld2 => ?_)
                · first | assumption | (trivial)
                clear hK K hHeld
                have hHeld := hHeld2; clear hHeld2
                try simp only [Act.put, List.setIfInBounds_toArray, List.set_cons_zero, List.set_cons_succ]
                refine wpAnyH_ready (rs := [2]) (by kernel_rfl) (by simp) ?_
                refine (AllReadyH.cons (o := { dst := some 84, op := Op.call { callee := Callee.builtin Builtin.append, args := #[Operand.tmp 82, Operand.tmp 83], argTypes := #[22, 22] }, type := 22, pos := "law.go:83", after := #[{ on := 0, ground := Ground.data }, { on := 1, ground := Ground.data }], guard := none }) rfl (fun K hK => ?_) AllReadyH.nil)
                (have Gx := Lib.hid ((((G0.out).lit 3 #[] [] 0 (vz.heap.size) rfl rfl rfl).noughtsAt 3 ns (vz.heap.size + 1) (by simp) (by omega)).lit 3 #[] [] 0 (vz.heap.size + 1 + 1) (by simp) rfl rfl); refine step_appends_sep rfl (.tmp 82) (.tmp 83) 22 3 rfl Try.underlying22 Try.infoInt Gx.out 0 rfl rfl As ns cs (3 :: 4 :: r) rfl ((Gx.out.ownInts 16 rfl).2.2) ?_ ?_; (focus omega); intro x2 y2 h9; have G1 := Lib.hid h9; clear h9 Gx)
                refine hK.out _ _ ?_ (fun hHeld2 => ?_)
                · first | assumption | (trivial)
                clear hK K hHeld
                have hHeld := hHeld2; clear hHeld2
                try simp only [Act.put, List.setIfInBounds_toArray, List.set_cons_zero, List.set_cons_succ]
                refine wpAnyH_ready (rs := [5]) (by kernel_rfl) (by simp) ?_
                refine (AllReadyH.cons (o := { dst := some 87, op := Op.call { callee := Callee.builtin Builtin.append, args := #[Operand.tmp 85, Operand.tmp 86], argTypes := #[22, 22] }, type := 22, pos := "law.go:83", after := #[{ on := 3, ground := Ground.data }, { on := 4, ground := Ground.data }, { on := 2, ground := Ground.chain }], guard := none }) rfl (fun K hK => ?_) AllReadyH.nil)
                (have Gx := Lib.hid (G1.out); refine step_appends_sep rfl (.tmp 85) (.tmp 86) 22 3 rfl Try.underlying22 Try.infoInt Gx.out 2 rfl rfl As ns cs (3 :: 4 :: r) rfl ((Gx.out.ownInts 16 rfl).2.2) ?_ ?_; (focus omega); intro x5 y5 h9; have G2 := Lib.hid h9; clear h9 Gx; have HF := Lib.hid (((G2.out).sub (l' := [.own 3 x2 (0 + ns) ([] ++ (3 :: 4 :: r)), .own 3 x5 (0 + ns) ([] ++ (3 :: 4 :: r)), .own 3 (.slice (some ⟨vz.heap.size + 1, 0, none⟩) ns ns) ns (List.replicate ns 0), .own 3 (.slice (some ⟨gz, 0, none⟩) ns ns) ns (List.replicate ns 0), .box gc 26 [.slice Sc nc cc, .slice Dc mc dc], .own 3 (.slice Sc nc cc) nc (r), .own 2 (.slice Dc mc dc) mc (foldD k (3 :: 4 :: r) dt [0, 1]), .box gb 26 [.slice Sb nb cb, .slice Db mb db], .own 3 (.slice Sb nb cb) nb (r), .own 2 (.slice Db mb db) mb (foldD k (3 :: 4 :: r) dt [0, 1]), .box ga 26 [.slice Sa na ca, .slice Da ma da], .own 3 (.slice Sa na ca) na (3 :: r), .own 2 (.slice Da ma da) ma (foldD k (3 :: 4 :: r) dt [1]), .box gt 26 [.slice St nt kt, .slice Dt mt jt], .own 3 (.slice St nt kt) nt (3 :: 4 :: r), .own 2 (.slice Dt mt jt) mt dt, .own 3 (.slice As ns cs) ns (3 :: 4 :: r), .tape w.heap.size]) [0, 2, 1, 3, 4, 5, 6, 7, 8, 9, 10, 11, 12, 13, 14, 15, 16, 17] rfl (by decide)).recast (l' := .own 3 x2 ns (3 :: 4 :: r) :: .own 3 x5 ns (3 :: 4 :: r) :: .own 3 (.slice (some ⟨vz.heap.size + 1, 0, none⟩) ns ns) ns (List.replicate ns 0) :: [.own 3 (.slice (some ⟨gz, 0, none⟩) ns ns) ns (List.replicate ns 0), .box gc 26 [.slice Sc nc cc, .slice Dc mc dc], .own 3 (.slice Sc nc cc) nc (r), .own 2 (.slice Dc mc dc) mc (foldD k (3 :: 4 :: r) dt [0, 1]), .box gb 26 [.slice Sb nb cb, .slice Db mb db], .own 3 (.slice Sb nb cb) nb (r), .own 2 (.slice Db mb db) mb (foldD k (3 :: 4 :: r) dt [0, 1]), .box ga 26 [.slice Sa na ca, .slice Da ma da], .own 3 (.slice Sa na ca) na (3 :: r), .own 2 (.slice Da ma da) ma (foldD k (3 :: 4 :: r) dt [1]), .box gt 26 [.slice St nt kt, .slice Dt mt jt], .own 3 (.slice St nt kt) nt (3 :: 4 :: r), .own 2 (.slice Dt mt jt) mt dt, .own 3 (.slice As ns cs) ns (3 :: 4 :: r), .tape w.heap.size]) (by simp)))
                refine hK.out _ _ ?_ (fun hHeld2 => ?_)
                · first | assumption | (trivial)
                clear hK K hHeld
                have hHeld := hHeld2; clear hHeld2
                try simp only [Act.put, List.setIfInBounds_toArray, List.set_cons_zero, List.set_cons_succ]
                first | (refine takeU (i := 9) (oi := { dst := some 16, op := Op.assign (Operand.tmp 84), type := 22, pos := "law.go:83", after := #[{ on := 2, ground := Ground.data }, { on := 5, ground := Ground.chain }, { on := 0, ground := Ground.phase }, { on := 1, ground := Ground.phase }, { on := 2, ground := Ground.phase }, { on := 3, ground := Ground.textOnly Departure.lateStores }, { on := 4, ground := Ground.textOnly Departure.lateStores }, { on := 5, ground := Ground.textOnly Departure.lateStoresUnsure }, { on := 6, ground := Ground.textOnly Departure.lateStores }, { on := 7, ground := Ground.textOnly Departure.lateStoresUnsure }, { on := 8, ground := Ground.textOnly Departure.lateStoresUnsure }], guard := none }) rfl (by kernel_rfl) (by kernel_rfl) (by kernel_rfl) (fun _ _ _ h => h) ?_ hHeld ?_; (focus rfl)) | (refine takeW (i := 9) (oi := { dst := some 16, op := Op.assign (Operand.tmp 84), type := 22, pos := "law.go:83", after := #[{ on := 2, ground := Ground.data }, { on := 5, ground := Ground.chain }, { on := 0, ground := Ground.phase }, { on := 1, ground := Ground.phase }, { on := 2, ground := Ground.phase }, { on := 3, ground := Ground.textOnly Departure.lateStores }, { on := 4, ground := Ground.textOnly Departure.lateStores }, { on := 5, ground := Ground.textOnly Departure.lateStoresUnsure }, { on := 6, ground := Ground.textOnly Departure.lateStores }, { on := 7, ground := Ground.textOnly Departure.lateStoresUnsure }, { on := 8, ground := Ground.textOnly Departure.lateStoresUnsure }], guard := none }) ?_ rfl (by kernel_rfl) (by kernel_rfl) (by kernel_rfl) (fun _ _ _ h => h) ?_ ?_ hHeld ?_; rotate_left; (focus rfl); (focus (intro wq hSq; obtain sq0 := hSq; (first | (go_simp; done) | (go_simp; with_reducible rfl)))))
                try simp only [Act.put, List.setIfInBounds_toArray, List.set_cons_zero, List.set_cons_succ]
                first | (refine takeU (i := 10) (oi := { dst := some 17, op := Op.assign (Operand.tmp 87), type := 22, pos := "law.go:83", after := #[{ on := 5, ground := Ground.data }, { on := 9, ground := Ground.chain }, { on := 0, ground := Ground.phase }, { on := 1, ground := Ground.phase }, { on := 2, ground := Ground.phase }, { on := 3, ground := Ground.phase }, { on := 4, ground := Ground.phase }, { on := 5, ground := Ground.phase }, { on := 6, ground := Ground.textOnly Departure.lateStores }, { on := 7, ground := Ground.textOnly Departure.lateStoresUnsure }, { on := 8, ground := Ground.textOnly Departure.lateStoresUnsure }, { on := 9, ground := Ground.phase }], guard := none }) rfl (by kernel_rfl) (by kernel_rfl) (by kernel_rfl) (fun _ _ _ h => h) ?_ hHeld ?_; (focus rfl)) | (refine takeW (i := 10) (oi := { dst := some 17, op := Op.assign (Operand.tmp 87), type := 22, pos := "law.go:83", after := #[{ on := 5, ground := Ground.data }, { on := 9, ground := Ground.chain }, { on := 0, ground := Ground.phase }, { on := 1, ground := Ground.phase }, { on := 2, ground := Ground.phase }, { on := 3, ground := Ground.phase }, { on := 4, ground := Ground.phase }, { on := 5, ground := Ground.phase }, { on := 6, ground := Ground.textOnly Departure.lateStores }, { on := 7, ground := Ground.textOnly Departure.lateStoresUnsure }, { on := 8, ground := Ground.textOnly Departure.lateStoresUnsure }, { on := 9, ground := Ground.phase }], guard := none }) ?_ rfl (by kernel_rfl) (by kernel_rfl) (by kernel_rfl) (fun _ _ _ h => h) ?_ ?_ hHeld ?_; rotate_left; (focus rfl); (focus (intro wq hSq; obtain sq0 := hSq; (first | (go_simp; done) | (go_simp; with_reducible rfl)))))
                try simp only [Act.put, List.setIfInBounds_toArray, List.set_cons_zero, List.set_cons_succ]
                first | (refine takeU (i := 11) (oi := { dst := some 18, op := Op.assign (Operand.tmp 90), type := 22, pos := "law.go:83", after := #[{ on := 8, ground := Ground.data }, { on := 10, ground := Ground.chain }, { on := 0, ground := Ground.phase }, { on := 1, ground := Ground.phase }, { on := 2, ground := Ground.phase }, { on := 3, ground := Ground.phase }, { on := 4, ground := Ground.phase }, { on := 5, ground := Ground.phase }, { on := 6, ground := Ground.phase }, { on := 7, ground := Ground.phase }, { on := 8, ground := Ground.phase }, { on := 9, ground := Ground.phase }, { on := 10, ground := Ground.phase }], guard := none }) rfl (by kernel_rfl) (by kernel_rfl) (by kernel_rfl) (fun _ _ _ h => h) ?_ hHeld ?_; (focus rfl)) | (refine takeW (i := 11) (oi := { dst := some 18, op := Op.assign (Operand.tmp 90), type := 22, pos := "law.go:83", after := #[{ on := 8, ground := Ground.data }, { on := 10, ground := Ground.chain }, { on := 0, ground := Ground.phase }, { on := 1, ground := Ground.phase }, { on := 2, ground := Ground.phase }, { on := 3, ground := Ground.phase }, { on := 4, ground := Ground.phase }, { on := 5, ground := Ground.phase }, { on := 6, ground := Ground.phase }, { on := 7, ground := Ground.phase }, { on := 8, ground := Ground.phase }, { on := 9, ground := Ground.phase }, { on := 10, ground := Ground.phase }], guard := none }) ?_ rfl (by kernel_rfl) (by kernel_rfl) (by kernel_rfl) (fun _ _ _ h => h) ?_ ?_ hHeld ?_; rotate_left; (focus rfl); (focus (intro wq hSq; obtain sq0 := hSq; (first | (go_simp; done) | (go_simp; with_reducible rfl)))))
                try simp only [Act.put, List.setIfInBounds_toArray, List.set_cons_zero, List.set_cons_succ]
                refine wpAnyH_done (by kernel_rfl) ?_ _
                go_wp2_with fail
                go_meet
                exact ⟨_, _, _, rfl, rfl, rfl, HF.out⟩
        · as_aux_lemma =>
            go_simp
            try go_wp2_with fail
            refine hK.out _ _ ?_ (fun hHeld2 => ?_)
            · first | assumption | (trivial)
            clear hK K hHeld
            have hHeld := hHeld2; clear hHeld2
            try simp only [Act.put, List.setIfInBounds_toArray, List.set_cons_zero, List.set_cons_succ]
            refine wpAnyH_ready (rs := [0, 3]) (by kernel_rfl) (by simp) ?_
            refine (AllReadyH.cons (o := { dst := some 82, op := Op.buildSlice 22 0 #[], type := 22, pos := "law.go:83", after := #[], guard := none }) rfl (fun K hK => ?_) (AllReadyH.cons (o := { dst := some 85, op := Op.buildSlice 22 0 #[], type := 22, pos := "law.go:83", after := #[], guard := none }) rfl (fun K hK => ?_) AllReadyH.nil))
            · as_aux_lemma =>
                go_simp
                try go_wp2_with fail
                refine hK.out _ _ ?_ (fun hHeld2 => ?_)
                · first | assumption | (trivial)
                clear hK K hHeld
                have hHeld := hHeld2; clear hHeld2
                try simp only [Act.put, List.setIfInBounds_toArray, List.set_cons_zero, List.set_cons_succ]
                refine wpAnyH_ready (rs := [2, 3]) (by kernel_rfl) (by simp) ?_
                refine (AllReadyH.cons (o := { dst := some 84, op := Op.call { callee := Callee.builtin Builtin.append, args := #[Operand.tmp 82, Operand.tmp 83], argTypes := #[22, 22] }, type := 22, pos := "law.go:83", after := #[{ on := 0, ground := Ground.data }, { on := 1, ground := Ground.data }], guard := none }) rfl (fun K hK => ?_) (AllReadyH.cons (o := { dst := some 85, op := Op.buildSlice 22 0 #[], type := 22, pos := "law.go:83", after := #[], guard := none }) rfl (fun K hK => ?_) AllReadyH.nil))
                · (have Gx := Lib.hid (((G0.out).noughtsAt 3 ns (vz.heap.size) rfl (by omega)).lit 3 #[] [] 0 (vz.heap.size + 1) (by simp) rfl rfl); refine step_appends_sep rfl (.tmp 82) (.tmp 83) 22 3 rfl Try.underlying22 Try.infoInt Gx.out 0 rfl rfl As ns cs (3 :: 4 :: r) rfl ((Gx.out.ownInts 15 rfl).2.2) ?_ ?_; (focus omega); intro x2 y2 h9; have G1 := Lib.hid h9; clear h9 Gx)
                  refine hK.out _ _ ?_ (fun hHeld2 => ?_)
                  · first | assumption | (trivial)
                  clear hK K hHeld
                  have hHeld := hHeld2; clear hHeld2
                  try simp only [Act.put, List.setIfInBounds_toArray, List.set_cons_zero, List.set_cons_succ]
                  refine wpAnyH_ready (rs := [3]) (by kernel_rfl) (by simp) ?_
                  refine (AllReadyH.cons (o := { dst := some 85, op := Op.buildSlice 22 0 #[], type := 22, pos := "law.go:83", after := #[], guard := none }) rfl (fun K hK => ?_) AllReadyH.nil)
                  go_simp
                  try go_wp2_with fail
                  refine hK.out _ _ ?_ (fun hHeld2 => ?_)
                  · first | assumption | (trivial)
                  clear hK K hHeld
                  have hHeld := hHeld2; clear hHeld2
                  try simp only [Act.put, List.setIfInBounds_toArray, List.set_cons_zero, List.set_cons_succ]
                  refine wpAnyH_ready (rs := [5]) (by kernel_rfl) (by simp) ?_
                  refine (AllReadyH.cons (o := { dst := some 87, op := Op.call { callee := Callee.builtin Builtin.append, args := #[Operand.tmp 85, Operand.tmp 86], argTypes := #[22, 22] }, type := 22, pos := "law.go:83", after := #[{ on := 3, ground := Ground.data }, { on := 4, ground := Ground.data }, { on := 2, ground := Ground.chain }], guard := none }) rfl (fun K hK => ?_) AllReadyH.nil)
                  (have Gx := Lib.hid ((G1.out).lit 3 #[] [] 0 (y2.heap.size) rfl rfl rfl); refine step_appends_sep rfl (.tmp 85) (.tmp 86) 22 3 rfl Try.underlying22 Try.infoInt Gx.out 0 rfl rfl As ns cs (3 :: 4 :: r) rfl ((Gx.out.ownInts 16 rfl).2.2) ?_ ?_; (focus omega); intro x5 y5 h9; have G2 := Lib.hid h9; clear h9 Gx; have HF := Lib.hid (((G2.out).sub (l' := [.own 3 x2 (0 + ns) ([] ++ (3 :: 4 :: r)), .own 3 x5 (0 + ns) ([] ++ (3 :: 4 :: r)), .own 3 (.slice (some ⟨vz.heap.size, 0, none⟩) ns ns) ns (List.replicate ns 0), .own 3 (.slice (some ⟨gz, 0, none⟩) ns ns) ns (List.replicate ns 0), .box gc 26 [.slice Sc nc cc, .slice Dc mc dc], .own 3 (.slice Sc nc cc) nc (r), .own 2 (.slice Dc mc dc) mc (foldD k (3 :: 4 :: r) dt [0, 1]), .box gb 26 [.slice Sb nb cb, .slice Db mb db], .own 3 (.slice Sb nb cb) nb (r), .own 2 (.slice Db mb db) mb (foldD k (3 :: 4 :: r) dt [0, 1]), .box ga 26 [.slice Sa na ca, .slice Da ma da], .own 3 (.slice Sa na ca) na (3 :: r), .own 2 (.slice Da ma da) ma (foldD k (3 :: 4 :: r) dt [1]), .box gt 26 [.slice St nt kt, .slice Dt mt jt], .own 3 (.slice St nt kt) nt (3 :: 4 :: r), .own 2 (.slice Dt mt jt) mt dt, .own 3 (.slice As ns cs) ns (3 :: 4 :: r), .tape w.heap.size]) [1, 0, 2, 3, 4, 5, 6, 7, 8, 9, 10, 11, 12, 13, 14, 15, 16, 17] rfl (by decide)).recast (l' := .own 3 x2 ns (3 :: 4 :: r) :: .own 3 x5 ns (3 :: 4 :: r) :: .own 3 (.slice (some ⟨vz.heap.size, 0, none⟩) ns ns) ns (List.replicate ns 0) :: [.own 3 (.slice (some ⟨gz, 0, none⟩) ns ns) ns (List.replicate ns 0), .box gc 26 [.slice Sc nc cc, .slice Dc mc dc], .own 3 (.slice Sc nc cc) nc (r), .own 2 (.slice Dc mc dc) mc (foldD k (3 :: 4 :: r) dt [0, 1]), .box gb 26 [.slice Sb nb cb, .slice Db mb db], .own 3 (.slice Sb nb cb) nb (r), .own 2 (.slice Db mb db) mb (foldD k (3 :: 4 :: r) dt [0, 1]), .box ga 26 [.slice Sa na ca, .slice Da ma da], .own 3 (.slice Sa na ca) na (3 :: r), .own 2 (.slice Da ma da) ma (foldD k (3 :: 4 :: r) dt [1]), .box gt 26 [.slice St nt kt, .slice Dt mt jt], .own 3 (.slice St nt kt) nt (3 :: 4 :: r), .own 2 (.slice Dt mt jt) mt dt, .own 3 (.slice As ns cs) ns (3 :: 4 :: r), .tape w.heap.size]) (by simp)))
                  refine hK.out _ _ ?_ (fun hHeld2 => ?_)
                  · first | assumption | (trivial)
                  clear hK K hHeld
                  have hHeld := hHeld2; clear hHeld2
                  try simp only [Act.put, List.setIfInBounds_toArray, List.set_cons_zero, List.set_cons_succ]
                  first | (refine takeU (i := 9) (oi := { dst := some 16, op := Op.assign (Operand.tmp 84), type := 22, pos := "law.go:83", after := #[{ on := 2, ground := Ground.data }, { on := 5, ground := Ground.chain }, { on := 0, ground := Ground.phase }, { on := 1, ground := Ground.phase }, { on := 2, ground := Ground.phase }, { on := 3, ground := Ground.textOnly Departure.lateStores }, { on := 4, ground := Ground.textOnly Departure.lateStores }, { on := 5, ground := Ground.textOnly Departure.lateStoresUnsure }, { on := 6, ground := Ground.textOnly Departure.lateStores }, { on := 7, ground := Ground.textOnly Departure.lateStoresUnsure }, { on := 8, ground := Ground.textOnly Departure.lateStoresUnsure }], guard := none }) rfl (by kernel_rfl) (by kernel_rfl) (by kernel_rfl) (fun _ _ _ h => h) ?_ hHeld ?_; (focus rfl)) | (refine takeW (i := 9) (oi := { dst := some 16, op := Op.assign (Operand.tmp 84), type := 22, pos := "law.go:83", after := #[{ on := 2, ground := Ground.data }, { on := 5, ground := Ground.chain }, { on := 0, ground := Ground.phase }, { on := 1, ground := Ground.phase }, { on := 2, ground := Ground.phase }, { on := 3, ground := Ground.textOnly Departure.lateStores }, { on := 4, ground := Ground.textOnly Departure.lateStores }, { on := 5, ground := Ground.textOnly Departure.lateStoresUnsure }, { on := 6, ground := Ground.textOnly Departure.lateStores }, { on := 7, ground := Ground.textOnly Departure.lateStoresUnsure }, { on := 8, ground := Ground.textOnly Departure.lateStoresUnsure }], guard := none }) ?_ rfl (by kernel_rfl) (by kernel_rfl) (by kernel_rfl) (fun _ _ _ h => h) ?_ ?_ hHeld ?_; rotate_left; (focus rfl); (focus (intro wq hSq; obtain sq0 := hSq; (first | (go_simp; done) | (go_simp; with_reducible rfl)))))
                  try simp only [Act.put, List.setIfInBounds_toArray, List.set_cons_zero, List.set_cons_succ]
                  first | (refine takeU (i := 10) (oi := { dst := some 17, op := Op.assign (Operand.tmp 87), type := 22, pos := "law.go:83", after := #[{ on := 5, ground := Ground.data }, { on := 9, ground := Ground.chain }, { on := 0, ground := Ground.phase }, { on := 1, ground := Ground.phase }, { on := 2, ground := Ground.phase }, { on := 3, ground := Ground.phase }, { on := 4, ground := Ground.phase }, { on := 5, ground := Ground.phase }, { on := 6, ground := Ground.textOnly Departure.lateStores }, { on := 7, ground := Ground.textOnly Departure.lateStoresUnsure }, { on := 8, ground := Ground.textOnly Departure.lateStoresUnsure }, { on := 9, ground := Ground.phase }], guard := none }) rfl (by kernel_rfl) (by kernel_rfl) (by kernel_rfl) (fun _ _ _ h => h) ?_ hHeld ?_; (focus rfl)) | (refine takeW (i := 10) (oi := { dst := some 17, op := Op.assign (Operand.tmp 87), type := 22, pos := "law.go:83", after := #[{ on := 5, ground := Ground.data }, { on := 9, ground := Ground.chain }, { on := 0, ground := Ground.phase }, { on := 1, ground := Ground.phase }, { on := 2, ground := Ground.phase }, { on := 3, ground := Ground.phase }, { on := 4, ground := Ground.phase }, { on := 5, ground := Ground.phase }, { on := 6, ground := Ground.textOnly Departure.lateStores }, { on := 7, ground := Ground.textOnly Departure.lateStoresUnsure }, { on := 8, ground := Ground.textOnly Departure.lateStoresUnsure }, { on := 9, ground := Ground.phase }], guard := none }) ?_ rfl (by kernel_rfl) (by kernel_rfl) (by kernel_rfl) (fun _ _ _ h => h) ?_ ?_ hHeld ?_; rotate_left; (focus rfl); (focus (intro wq hSq; obtain sq0 := hSq; (first | (go_simp; done) | (go_simp; with_reducible rfl)))))
                  try simp only [Act.put, List.setIfInBounds_toArray, List.set_cons_zero, List.set_cons_succ]
                  first | (refine takeU (i := 11) (oi := { dst := some 18, op := Op.assign (Operand.tmp 90), type := 22, pos := "law.go:83", after := #[{ on := 8, ground := Ground.data }, { on := 10, ground := Ground.chain }, { on := 0, ground := Ground.phase }, { on := 1, ground := Ground.phase }, { on := 2, ground := Ground.phase }, { on := 3, ground := Ground.phase }, { on := 4, ground := Ground.phase }, { on := 5, ground := Ground.phase }, { on := 6, ground := Ground.phase }, { on := 7, ground := Ground.phase }, { on := 8, ground := Ground.phase }, { on := 9, ground := Ground.phase }, { on := 10, ground := Ground.phase }], guard := none }) rfl (by kernel_rfl) (by kernel_rfl) (by kernel_rfl) (fun _ _ _ h => h) ?_ hHeld ?_; (focus rfl)) | (refine takeW (i := 11) (oi := { dst := some 18, op := Op.assign (Operand.tmp 90), type := 22, pos := "law.go:83", after := #[{ on := 8, ground := Ground.data }, { on := 10, ground := Ground.chain }, { on := 0, ground := Ground.phase }, { on := 1, ground := Ground.phase }, { on := 2, ground := Ground.phase }, { on := 3, ground := Ground.phase }, { on := 4, ground := Ground.phase }, { on := 5, ground := Ground.phase }, { on := 6, ground := Ground.phase }, { on := 7, ground := Ground.phase }, { on := 8, ground := Ground.phase }, { on := 9, ground := Ground.phase }, { on := 10, ground := Ground.phase }], guard := none }) ?_ rfl (by kernel_rfl) (by kernel_rfl) (by kernel_rfl) (fun _ _ _ h => h) ?_ ?_ hHeld ?_; rotate_left; (focus rfl); (focus (intro wq hSq; obtain sq0 := hSq; (first | (go_simp; done) | (go_simp; with_reducible rfl)))))
                  try simp only [Act.put, List.setIfInBounds_toArray, List.set_cons_zero, List.set_cons_succ]
                  refine wpAnyH_done (by kernel_rfl) ?_ _
                  go_wp2_with fail
                  go_meet
                  exact ⟨_, _, _, rfl, rfl, rfl, HF.out⟩
                · go_simp
                  try go_wp2_with fail
                  refine hK.out _ _ ?_ (fun hHeld2 => ?_)
                  · first | assumption | (trivial)
                  clear hK K hHeld
                  have hHeld := hHeld2; clear hHeld2
                  try simp only [Act.put, List.setIfInBounds_toArray, List.set_cons_zero, List.set_cons_succ]
                  refine wpAnyH_ready (rs := [2]) (by kernel_rfl) (by simp) ?_
                  refine (AllReadyH.cons (o := { dst := some 84, op := Op.call { callee := Callee.builtin Builtin.append, args := #[Operand.tmp 82, Operand.tmp 83], argTypes := #[22, 22] }, type := 22, pos := "law.go:83", after := #[{ on := 0, ground := Ground.data }, { on := 1, ground := Ground.data }], guard := none }) rfl (fun K hK => ?_) AllReadyH.nil)
                  (have Gx := Lib.hid ((((G0.out).noughtsAt 3 ns (vz.heap.size) rfl (by omega)).lit 3 #[] [] 0 (vz.heap.size + 1) (by simp) rfl rfl).lit 3 #[] [] 0 (vz.heap.size + 1 + 1) (by simp) rfl rfl); refine step_appends_sep rfl (.tmp 82) (.tmp 83) 22 3 rfl Try.underlying22 Try.infoInt Gx.out 1 rfl rfl As ns cs (3 :: 4 :: r) rfl ((Gx.out.ownInts 16 rfl).2.2) ?_ ?_; (focus omega); intro x2 y2 h9; have G1 := Lib.hid h9; clear h9 Gx)
                  refine hK.out _ _ ?_ (fun hHeld2 => ?_)
                  · first | assumption | (trivial)
                  clear hK K hHeld
                  have hHeld := hHeld2; clear hHeld2
                  try simp only [Act.put, List.setIfInBounds_toArray, List.set_cons_zero, List.set_cons_succ]
                  refine wpAnyH_ready (rs := [5]) (by kernel_rfl) (by simp) ?_
                  refine (AllReadyH.cons (o := { dst := some 87, op := Op.call { callee := Callee.builtin Builtin.append, args := #[Operand.tmp 85, Operand.tmp 86], argTypes := #[22, 22] }, type := 22, pos := "law.go:83", after := #[{ on := 3, ground := Ground.data }, { on := 4, ground := Ground.data }, { on := 2, ground := Ground.chain }], guard := none }) rfl (fun K hK => ?_) AllReadyH.nil)
                  (have Gx := Lib.hid (G1.out); refine step_appends_sep rfl (.tmp 85) (.tmp 86) 22 3 rfl Try.underlying22 Try.infoInt Gx.out 0 rfl rfl As ns cs (3 :: 4 :: r) rfl ((Gx.out.ownInts 16 rfl).2.2) ?_ ?_; (focus omega); intro x5 y5 h9; have G2 := Lib.hid h9; clear h9 Gx; have HF := Lib.hid (((G2.out).sub (l' := [.own 3 x2 (0 + ns) ([] ++ (3 :: 4 :: r)), .own 3 x5 (0 + ns) ([] ++ (3 :: 4 :: r)), .own 3 (.slice (some ⟨vz.heap.size, 0, none⟩) ns ns) ns (List.replicate ns 0), .own 3 (.slice (some ⟨gz, 0, none⟩) ns ns) ns (List.replicate ns 0), .box gc 26 [.slice Sc nc cc, .slice Dc mc dc], .own 3 (.slice Sc nc cc) nc (r), .own 2 (.slice Dc mc dc) mc (foldD k (3 :: 4 :: r) dt [0, 1]), .box gb 26 [.slice Sb nb cb, .slice Db mb db], .own 3 (.slice Sb nb cb) nb (r), .own 2 (.slice Db mb db) mb (foldD k (3 :: 4 :: r) dt [0, 1]), .box ga 26 [.slice Sa na ca, .slice Da ma da], .own 3 (.slice Sa na ca) na (3 :: r), .own 2 (.slice Da ma da) ma (foldD k (3 :: 4 :: r) dt [1]), .box gt 26 [.slice St nt kt, .slice Dt mt jt], .own 3 (.slice St nt kt) nt (3 :: 4 :: r), .own 2 (.slice Dt mt jt) mt dt, .own 3 (.slice As ns cs) ns (3 :: 4 :: r), .tape w.heap.size]) [1, 0, 2, 3, 4, 5, 6, 7, 8, 9, 10, 11, 12, 13, 14, 15, 16, 17] rfl (by decide)).recast (l' := .own 3 x2 ns (3 :: 4 :: r) :: .own 3 x5 ns (3 :: 4 :: r) :: .own 3 (.slice (some ⟨vz.heap.size, 0, none⟩) ns ns) ns (List.replicate ns 0) :: [.own 3 (.slice (some ⟨gz, 0, none⟩) ns ns) ns (List.replicate ns 0), .box gc 26 [.slice Sc nc cc, .slice Dc mc dc], .own 3 (.slice Sc nc cc) nc (r), .own 2 (.slice Dc mc dc) mc (foldD k (3 :: 4 :: r) dt [0, 1]), .box gb 26 [.slice Sb nb cb, .slice Db mb db], .own 3 (.slice Sb nb cb) nb (r), .own 2 (.slice Db mb db) mb (foldD k (3 :: 4 :: r) dt [0, 1]), .box ga 26 [.slice Sa na ca, .slice Da ma da], .own 3 (.slice Sa na ca) na (3 :: r), .own 2 (.slice Da ma da) ma (foldD k (3 :: 4 :: r) dt [1]), .box gt 26 [.slice St nt kt, .slice Dt mt jt], .own 3 (.slice St nt kt) nt (3 :: 4 :: r), .own 2 (.slice Dt mt jt) mt dt, .own 3 (.slice As ns cs) ns (3 :: 4 :: r), .tape w.heap.size]) (by simp)))
                  refine hK.out _ _ ?_ (fun hHeld2 => ?_)
                  · first | assumption | (trivial)
                  clear hK K hHeld
                  have hHeld := hHeld2; clear hHeld2
                  try simp only [Act.put, List.setIfInBounds_toArray, List.set_cons_zero, List.set_cons_succ]
                  first | (refine takeU (i := 9) (oi := { dst := some 16, op := Op.assign (Operand.tmp 84), type := 22, pos := "law.go:83", after := #[{ on := 2, ground := Ground.data }, { on := 5, ground := Ground.chain }, { on := 0, ground := Ground.phase }, { on := 1, ground := Ground.phase }, { on := 2, ground := Ground.phase }, { on := 3, ground := Ground.textOnly Departure.lateStores }, { on := 4, ground := Ground.textOnly Departure.lateStores }, { on := 5, ground := Ground.textOnly Departure.lateStoresUnsure }, { on := 6, ground := Ground.textOnly Departure.lateStores }, { on := 7, ground := Ground.textOnly Departure.lateStoresUnsure }, { on := 8, ground := Ground.textOnly Departure.lateStoresUnsure }], guard := none }) rfl (by kernel_rfl) (by kernel_rfl) (by kernel_rfl) (fun _ _ _ h => h) ?_ hHeld ?_; (focus rfl)) | (refine takeW (i := 9) (oi := { dst := some 16, op := Op.assign (Operand.tmp 84), type := 22, pos := "law.go:83", after := #[{ on := 2, ground := Ground.data }, { on := 5, ground := Ground.chain }, { on := 0, ground := Ground.phase }, { on := 1, ground := Ground.phase }, { on := 2, ground := Ground.phase }, { on := 3, ground := Ground.textOnly Departure.lateStores }, { on := 4, ground := Ground.textOnly Departure.lateStores }, { on := 5, ground := Ground.textOnly Departure.lateStoresUnsure }, { on := 6, ground := Ground.textOnly Departure.lateStores }, { on := 7, ground := Ground.textOnly Departure.lateStoresUnsure }, { on := 8, ground := Ground.textOnly Departure.lateStoresUnsure }], guard := none }) ?_ rfl (by kernel_rfl) (by kernel_rfl) (by kernel_rfl) (fun _ _ _ h => h) ?_ ?_ hHeld ?_; rotate_left; (focus rfl); (focus (intro wq hSq; obtain sq0 := hSq; (first | (go_simp; done) | (go_simp; with_reducible rfl)))))
                  try simp only [Act.put, List.setIfInBounds_toArray, List.set_cons_zero, List.set_cons_succ]
                  first | (refine takeU (i := 10) (oi := { dst := some 17, op := Op.assign (Operand.tmp 87), type := 22, pos := "law.go:83", after := #[{ on := 5, ground := Ground.data }, { on := 9, ground := Ground.chain }, { on := 0, ground := Ground.phase }, { on := 1, ground := Ground.phase }, { on := 2, ground := Ground.phase }, { on := 3, ground := Ground.phase }, { on := 4, ground := Ground.phase }, { on := 5, ground := Ground.phase }, { on := 6, ground := Ground.textOnly Departure.lateStores }, { on := 7, ground := Ground.textOnly Departure.lateStoresUnsure }, { on := 8, ground := Ground.textOnly Departure.lateStoresUnsure }, { on := 9, ground := Ground.phase }], guard := none }) rfl (by kernel_rfl) (by kernel_rfl) (by kernel_rfl) (fun _ _ _ h => h) ?_ hHeld ?_; (focus rfl)) | (refine takeW (i := 10) (oi := { dst := some 17, op := Op.assign (Operand.tmp 87), type := 22, pos := "law.go:83", after := #[{ on := 5, ground := Ground.data }, { on := 9, ground := Ground.chain }, { on := 0, ground := Ground.phase }, { on := 1, ground := Ground.phase }, { on := 2, ground := Ground.phase }, { on := 3, ground := Ground.phase }, { on := 4, ground := Ground.phase }, { on := 5, ground := Ground.phase }, { on := 6, ground := Ground.textOnly Departure.lateStores }, { on := 7, ground := Ground.textOnly Departure.lateStoresUnsure }, { on := 8, ground := Ground.textOnly Departure.lateStoresUnsure }, { on := 9, ground := Ground.phase }], guard := none }) ?_ rfl (by kernel_rfl) (by kernel_rfl) (by kernel_rfl) (fun _ _ _ h => h) ?_ ?_ hHeld ?_; rotate_left; (focus rfl); (focus (intro wq hSq; obtain sq0 := hSq; (first | (go_simp; done) | (go_simp; with_reducible rfl)))))
                  try simp only [Act.put, List.setIfInBounds_toArray, List.set_cons_zero, List.set_cons_succ]
                  first | (refine takeU (i := 11) (oi := { dst := some 18, op := Op.assign (Operand.tmp 90), type := 22, pos := "law.go:83", after := #[{ on := 8, ground := Ground.data }, { on := 10, ground := Ground.chain }, { on := 0, ground := Ground.phase }, { on := 1, ground := Ground.phase }, { on := 2, ground := Ground.phase }, { on := 3, ground := Ground.phase }, { on := 4, ground := Ground.phase }, { on := 5, ground := Ground.phase }, { on := 6, ground := Ground.phase }, { on := 7, ground := Ground.phase }, { on := 8, ground := Ground.phase }, { on := 9, ground := Ground.phase }, { on := 10, ground := Ground.phase }], guard := none }) rfl (by kernel_rfl) (by kernel_rfl) (by kernel_rfl) (fun _ _ _ h => h) ?_ hHeld ?_; (focus rfl)) | (refine takeW (i := 11) (oi := { dst := some 18, op := Op.assign (Operand.tmp 90), type := 22, pos := "law.go:83", after := #[{ on := 8, ground := Ground.data }, { on := 10, ground := Ground.chain }, { on := 0, ground := Ground.phase }, { on := 1, ground := Ground.phase }, { on := 2, ground := Ground.phase }, { on := 3, ground := Ground.phase }, { on := 4, ground := Ground.phase }, { on := 5, ground := Ground.phase }, { on := 6, ground := Ground.phase }, { on := 7, ground := Ground.phase }, { on := 8, ground := Ground.phase }, { on := 9, ground := Ground.phase }, { on := 10, ground := Ground.phase }], guard := none }) ?_ rfl (by kernel_rfl) (by kernel_rfl) (by kernel_rfl) (fun _ _ _ h => h) ?_ ?_ hHeld ?_; rotate_left; (focus rfl); (focus (intro wq hSq; obtain sq0 := hSq; (first | (go_simp; done) | (go_simp; with_reducible rfl)))))
                  try simp only [Act.put, List.setIfInBounds_toArray, List.set_cons_zero, List.set_cons_succ]
                  refine wpAnyH_done (by kernel_rfl) ?_ _
                  go_wp2_with fail
                  go_meet
                  exact ⟨_, _, _, rfl, rfl, rfl, HF.out⟩
            · as_aux_lemma =>
                go_simp
                try go_wp2_with fail
                refine hK.out _ _ ?_ (fun hHeld2 => ?_)
                · first | assumption | (trivial)
                clear hK K hHeld
                have hHeld := hHeld2; clear hHeld2
                try simp only [Act.put, List.setIfInBounds_toArray, List.set_cons_zero, List.set_cons_succ]
                refine wpAnyH_ready (rs := [0]) (by kernel_rfl) (by simp) ?_
                refine (AllReadyH.cons (o := { dst := some 82, op := Op.buildSlice 22 0 #[], type := 22, pos := "law.go:83", after := #[], guard := none }) rfl (fun K hK => ?_) AllReadyH.nil)
                go_simp
                try go_wp2_with fail
                refine hK.out _ _ ?_ (fun hHeld2 => ?_)
                · first | assumption | (trivial)
                clear hK K hHeld
                have hHeld := hHeld2; clear hHeld2
                try simp only [Act.put, List.setIfInBounds_toArray, List.set_cons_zero, List.set_cons_succ]
                refine wpAnyH_ready (rs := [2]) (by kernel_rfl) (by simp) ?_
                refine (AllReadyH.cons (o := { dst := some 84, op := Op.call { callee := Callee.builtin Builtin.append, args := #[Operand.tmp 82, Operand.tmp 83], argTypes := #[22, 22] }, type := 22, pos := "law.go:83", after := #[{ on := 0, ground := Ground.data }, { on := 1, ground := Ground.data }], guard := none }) rfl (fun K hK => ?_) AllReadyH.nil)
                (have Gx := Lib.hid ((((G0.out).noughtsAt 3 ns (vz.heap.size) rfl (by omega)).lit 3 #[] [] 0 (vz.heap.size + 1) (by simp) rfl rfl).lit 3 #[] [] 0 (vz.heap.size + 1 + 1) (by simp) rfl rfl); refine step_appends_sep rfl (.tmp 82) (.tmp 83) 22 3 rfl Try.underlying22 Try.infoInt Gx.out 0 rfl rfl As ns cs (3 :: 4 :: r) rfl ((Gx.out.ownInts 16 rfl).2.2) ?_ ?_; (focus omega); intro x2 y2 h9; have G1 := Lib.hid h9; clear h9 Gx)
                refine hK.out _ _ ?_ (fun hHeld2 => ?_)
                · first | assumption | (trivial)
                clear hK K hHeld
                have hHeld := hHeld2; clear hHeld2
                try simp only [Act.put, List.setIfInBounds_toArray, List.set_cons_zero, List.set_cons_succ]
                refine wpAnyH_ready (rs := [5]) (by kernel_rfl) (by simp) ?_
                refine (AllReadyH.cons (o := { dst := some 87, op := Op.call { callee := Callee.builtin Builtin.append, args := #[Operand.tmp 85, Operand.tmp 86], argTypes := #[22, 22] }, type := 22, pos := "law.go:83", after := #[{ on := 3, ground := Ground.data }, { on := 4, ground := Ground.data }, { on := 2, ground := Ground.chain }], guard := none }) rfl (fun K hK => ?_) AllReadyH.nil)
                (have Gx := Lib.hid (G1.out); refine step_appends_sep rfl (.tmp 85) (.tmp 86) 22 3 rfl Try.underlying22 Try.infoInt Gx.out 1 rfl rfl As ns cs (3 :: 4 :: r) rfl ((Gx.out.ownInts 16 rfl).2.2) ?_ ?_; (focus omega); intro x5 y5 h9; have G2 := Lib.hid h9; clear h9 Gx; have HF := Lib.hid (((G2.out).sub (l' := [.own 3 x2 (0 + ns) ([] ++ (3 :: 4 :: r)), .own 3 x5 (0 + ns) ([] ++ (3 :: 4 :: r)), .own 3 (.slice (some ⟨vz.heap.size, 0, none⟩) ns ns) ns (List.replicate ns 0), .own 3 (.slice (some ⟨gz, 0, none⟩) ns ns) ns (List.replicate ns 0), .box gc 26 [.slice Sc nc cc, .slice Dc mc dc], .own 3 (.slice Sc nc cc) nc (r), .own 2 (.slice Dc mc dc) mc (foldD k (3 :: 4 :: r) dt [0, 1]), .box gb 26 [.slice Sb nb cb, .slice Db mb db], .own 3 (.slice Sb nb cb) nb (r), .own 2 (.slice Db mb db) mb (foldD k (3 :: 4 :: r) dt [0, 1]), .box ga 26 [.slice Sa na ca, .slice Da ma da], .own 3 (.slice Sa na ca) na (3 :: r), .own 2 (.slice Da ma da) ma (foldD k (3 :: 4 :: r) dt [1]), .box gt 26 [.slice St nt kt, .slice Dt mt jt], .own 3 (.slice St nt kt) nt (3 :: 4 :: r), .own 2 (.slice Dt mt jt) mt dt, .own 3 (.slice As ns cs) ns (3 :: 4 :: r), .tape w.heap.size]) [0, 1, 2, 3, 4, 5, 6, 7, 8, 9, 10, 11, 12, 13, 14, 15, 16, 17] rfl (by decide)).recast (l' := .own 3 x2 ns (3 :: 4 :: r) :: .own 3 x5 ns (3 :: 4 :: r) :: .own 3 (.slice (some ⟨vz.heap.size, 0, none⟩) ns ns) ns (List.replicate ns 0) :: [.own 3 (.slice (some ⟨gz, 0, none⟩) ns ns) ns (List.replicate ns 0), .box gc 26 [.slice Sc nc cc, .slice Dc mc dc], .own 3 (.slice Sc nc cc) nc (r), .own 2 (.slice Dc mc dc) mc (foldD k (3 :: 4 :: r) dt [0, 1]), .box gb 26 [.slice Sb nb cb, .slice Db mb db], .own 3 (.slice Sb nb cb) nb (r), .own 2 (.slice Db mb db) mb (foldD k (3 :: 4 :: r) dt [0, 1]), .box ga 26 [.slice Sa na ca, .slice Da ma da], .own 3 (.slice Sa na ca) na (3 :: r), .own 2 (.slice Da ma da) ma (foldD k (3 :: 4 :: r) dt [1]), .box gt 26 [.slice St nt kt, .slice Dt mt jt], .own 3 (.slice St nt kt) nt (3 :: 4 :: r), .own 2 (.slice Dt mt jt) mt dt, .own 3 (.slice As ns cs) ns (3 :: 4 :: r), .tape w.heap.size]) (by simp)))
                refine hK.out _ _ ?_ (fun hHeld2 => ?_)
                · first | assumption | (trivial)
                clear hK K hHeld
                have hHeld := hHeld2; clear hHeld2
                try simp only [Act.put, List.setIfInBounds_toArray, List.set_cons_zero, List.set_cons_succ]
                first | (refine takeU (i := 9) (oi := { dst := some 16, op := Op.assign (Operand.tmp 84), type := 22, pos := "law.go:83", after := #[{ on := 2, ground := Ground.data }, { on := 5, ground := Ground.chain }, { on := 0, ground := Ground.phase }, { on := 1, ground := Ground.phase }, { on := 2, ground := Ground.phase }, { on := 3, ground := Ground.textOnly Departure.lateStores }, { on := 4, ground := Ground.textOnly Departure.lateStores }, { on := 5, ground := Ground.textOnly Departure.lateStoresUnsure }, { on := 6, ground := Ground.textOnly Departure.lateStores }, { on := 7, ground := Ground.textOnly Departure.lateStoresUnsure }, { on := 8, ground := Ground.textOnly Departure.lateStoresUnsure }], guard := none }) rfl (by kernel_rfl) (by kernel_rfl) (by kernel_rfl) (fun _ _ _ h => h) ?_ hHeld ?_; (focus rfl)) | (refine takeW (i := 9) (oi := { dst := some 16, op := Op.assign (Operand.tmp 84), type := 22, pos := "law.go:83", after := #[{ on := 2, ground := Ground.data }, { on := 5, ground := Ground.chain }, { on := 0, ground := Ground.phase }, { on := 1, ground := Ground.phase }, { on := 2, ground := Ground.phase }, { on := 3, ground := Ground.textOnly Departure.lateStores }, { on := 4, ground := Ground.textOnly Departure.lateStores }, { on := 5, ground := Ground.textOnly Departure.lateStoresUnsure }, { on := 6, ground := Ground.textOnly Departure.lateStores }, { on := 7, ground := Ground.textOnly Departure.lateStoresUnsure }, { on := 8, ground := Ground.textOnly Departure.lateStoresUnsure }], guard := none }) ?_ rfl (by kernel_rfl) (by kernel_rfl) (by kernel_rfl) (fun _ _ _ h => h) ?_ ?_ hHeld ?_; rotate_left; (focus rfl); (focus (intro wq hSq; obtain sq0 := hSq; (first | (go_simp; done) | (go_simp; with_reducible rfl)))))
                try simp only [Act.put, List.setIfInBounds_toArray, List.set_cons_zero, List.set_cons_succ]
                first | (refine takeU (i := 10) (oi := { dst := some 17, op := Op.assign (Operand.tmp 87), type := 22, pos := "law.go:83", after := #[{ on := 5, ground := Ground.data }, { on := 9, ground := Ground.chain }, { on := 0, ground := Ground.phase }, { on := 1, ground := Ground.phase }, { on := 2, ground := Ground.phase }, { on := 3, ground := Ground.phase }, { on := 4, ground := Ground.phase }, { on := 5, ground := Ground.phase }, { on := 6, ground := Ground.textOnly Departure.lateStores }, { on := 7, ground := Ground.textOnly Departure.lateStoresUnsure }, { on := 8, ground := Ground.textOnly Departure.lateStoresUnsure }, { on := 9, ground := Ground.phase }], guard := none }) rfl (by kernel_rfl) (by kernel_rfl) (by kernel_rfl) (fun _ _ _ h => h) ?_ hHeld ?_; (focus rfl)) | (refine takeW (i := 10) (oi := { dst := some 17, op := Op.assign (Operand.tmp 87), type := 22, pos := "law.go:83", after := #[{ on := 5, ground := Ground.data }, { on := 9, ground := Ground.chain }, { on := 0, ground := Ground.phase }, { on := 1, ground := Ground.phase }, { on := 2, ground := Ground.phase }, { on := 3, ground := Ground.phase }, { on := 4, ground := Ground.phase }, { on := 5, ground := Ground.phase }, { on := 6, ground := Ground.textOnly Departure.lateStores }, { on := 7, ground := Ground.textOnly Departure.lateStoresUnsure }, { on := 8, ground := Ground.textOnly Departure.lateStoresUnsure }, { on := 9, ground := Ground.phase }], guard := none }) ?_ rfl (by kernel_rfl) (by kernel_rfl) (by kernel_rfl) (fun _ _ _ h => h) ?_ ?_ hHeld ?_; rotate_left; (focus rfl); (focus (intro wq hSq; obtain sq0 := hSq; (first | (go_simp; done) | (go_simp; with_reducible rfl)))))
                try simp only [Act.put, List.setIfInBounds_toArray, List.set_cons_zero, List.set_cons_succ]
                first | (refine takeU (i := 11) (oi := { dst := some 18, op := Op.assign (Operand.tmp 90), type := 22, pos := "law.go:83", after := #[{ on := 8, ground := Ground.data }, { on := 10, ground := Ground.chain }, { on := 0, ground := Ground.phase }, { on := 1, ground := Ground.phase }, { on := 2, ground := Ground.phase }, { on := 3, ground := Ground.phase }, { on := 4, ground := Ground.phase }, { on := 5, ground := Ground.phase }, { on := 6, ground := Ground.phase }, { on := 7, ground := Ground.phase }, { on := 8, ground := Ground.phase }, { on := 9, ground := Ground.phase }, { on := 10, ground := Ground.phase }], guard := none }) rfl (by kernel_rfl) (by kernel_rfl) (by kernel_rfl) (fun _ _ _ h => h) ?_ hHeld ?_; (focus rfl)) | (refine takeW (i := 11) (oi := { dst := some 18, op := Op.assign (Operand.tmp 90), type := 22, pos := "law.go:83", after := #[{ on := 8, ground := Ground.data }, { on := 10, ground := Ground.chain }, { on := 0, ground := Ground.phase }, { on := 1, ground := Ground.phase }, { on := 2, ground := Ground.phase }, { on := 3, ground := Ground.phase }, { on := 4, ground := Ground.phase }, { on := 5, ground := Ground.phase }, { on := 6, ground := Ground.phase }, { on := 7, ground := Ground.phase }, { on := 8, ground := Ground.phase }, { on := 9, ground := Ground.phase }, { on := 10, ground := Ground.phase }], guard := none }) ?_ rfl (by kernel_rfl) (by kernel_rfl) (by kernel_rfl) (fun _ _ _ h => h) ?_ ?_ hHeld ?_; rotate_left; (focus rfl); (focus (intro wq hSq; obtain sq0 := hSq; (first | (go_simp; done) | (go_simp; with_reducible rfl)))))
                try simp only [Act.put, List.setIfInBounds_toArray, List.set_cons_zero, List.set_cons_succ]
                refine wpAnyH_done (by kernel_rfl) ?_ _
                go_wp2_with fail
                go_meet
                exact ⟨_, _, _, rfl, rfl, rfl, HF.out⟩
      case rest =>
        obtain ⟨v1, v2, g3, rfl, rfl, rfl, hS⟩ := hcut
        replace H := Lib.hid hS
        clear hS hm
        obtain ⟨g1, kf1, hv, _⟩ := (H.out.ownS 0 rfl).own (by omega)
        subst hv
        obtain ⟨g2, kf2, hv, _⟩ := (H.out.ownS 1 rfl).own (by omega)
        subst hv
        have hc7 := (H.out.own 0 rfl).cell (j := 0) (x := 3) rfl
        have hf7 := (H.out.own 0 rfl).frozen 0
        have h7 := H.out.store 0 0 (x := 1) ⟨by omega, by omega⟩ rfl
        have hc8 := (h7.own 1 rfl).cell (j := 0) (x := 3) rfl
        have hf8 := (h7.own 1 rfl).frozen 0
        have h8 := h7.store 1 0 (x := 2) ⟨by omega, by omega⟩ rfl
        have hc9 := (h8.own 2 rfl).cell (j := 0) (x := 0) (by rw [List.getElem?_replicate, if_pos (by omega)])
        have hf9 := (h8.own 2 rfl).frozen 0
        have h9 := h8.store 2 0 (x := 1) ⟨by omega, by omega⟩ rfl
        go_upto_region 15 with fail
        generalize ((wc.setCell ⟨g1, 0, none⟩ (.int .i64 1)).setCell ⟨g2, 0, none⟩ (.int .i64 2)).setCell ⟨g3, 0, none⟩ (.int .i64 1) = w14 at *
        clear hc7 hf7 hc8 hf8 hc9 hf9 h7 h8
        replace H := Lib.hid (show Sep w w14 [.own 3 (.slice (some ⟨g1, 0, none⟩) ns kf1) ns (1 :: 4 :: r), .own 3 (.slice (some ⟨g2, 0, none⟩) ns kf2) ns (2 :: 4 :: r), .own 3 (.slice (some ⟨g3, 0, none⟩) ns ns) ns ((List.replicate ns 0 : List Int).set 0 1), .own 3 (.slice (some ⟨gz, 0, none⟩) ns ns) ns (List.replicate ns 0), .box gc 26 [.slice Sc nc cc, .slice Dc mc dc], .own 3 (.slice Sc nc cc) nc (r), .own 2 (.slice Dc mc dc) mc (foldD k (3 :: 4 :: r) dt [0, 1]), .box gb 26 [.slice Sb nb cb, .slice Db mb db], .own 3 (.slice Sb nb cb) nb (r), .own 2 (.slice Db mb db) mb (foldD k (3 :: 4 :: r) dt [0, 1]), .box ga 26 [.slice Sa na ca, .slice Da ma da], .own 3 (.slice Sa na ca) na (3 :: r), .own 2 (.slice Da ma da) ma (foldD k (3 :: 4 :: r) dt [1]), .box gt 26 [.slice St nt kt, .slice Dt mt jt], .own 3 (.slice St nt kt) nt (3 :: 4 :: r), .own 2 (.slice Dt mt jt) mt dt, .own 3 (.slice As ns cs) ns (3 :: 4 :: r), .tape w.heap.size] from h9)
        clear h9
        have hch := cut_head HRT.out HM.out
        have hct := cut_tail HRT.out HM.out
        rw [Ls.out] at hch hct
        obtain ⟨hc1, hc2, hc3, hc4⟩ := hch
        obtain ⟨ht1, ht2, ht3, ht4⟩ := hct
        obtain ⟨da1, hdl⟩ : ∃ z, cutD (3 :: 4 :: r) dt (List.replicate ns 0) (1 :: 4 :: r) = z := ⟨_, rfl⟩
        obtain ⟨da2, hdr⟩ : ∃ z, cutD (3 :: 4 :: r) dt ((List.replicate ns 0 : List Int).set 0 1) (2 :: 4 :: r) = z := ⟨_, rfl⟩
        rw [hdl] at hc1 hc2 hc3 hc4
        rw [hdr] at ht1 ht2 ht3 ht4
        have HC1 := Lib.hid hc1
        have HC2 := Lib.hid hc2
        have HC3 := Lib.hid hc3
        have HC4 := Lib.hid hc4
        have HT1 := Lib.hid ht1
        have HT2 := Lib.hid ht2
        have HT3 := Lib.hid ht3
        have HT4 := Lib.hid ht4
        clear hc1 hc2 hc3 hc4 ht1 ht2 ht3 ht4 hdl hdr
        have t0 := H.out.cell 13 0 rfl rfl
        have t1 := H.out.cell 13 1 rfl rfl
        have C5 := ref4Slice_any (cf := ns) (cz := kf1) (ten_mk (H.out.ownInts 14 rfl).2.2 (H.out.ownInts 14 rfl).2.1 (H.out.ownInts 15 rfl).2.2 (H.out.ownInts 15 rfl).2.1) ((H.out.ownInts 3 rfl).2.2) ((H.out.ownInts 0 rfl).2.2)
        rw [HC1.out] at C5
        go_wp2_with fail
        refine C5.mono ?_; rintro e5 w5 ⟨⟨u, rfl, hu⟩, hb⟩
        obtain ⟨Sl, nl, cl, Dl, ml, dl, rfl, _, _, _, _, _, h5⟩ := H.out.addTen hb hu
        have h6 := h5.allocBox w5.heap.size 26 [.slice Sl nl cl, .slice Dl ml dl] rfl
        clear C5 hu hb h5 t0 t1
        go_upto_region 16 with fail
        generalize w5.alloc (.cells #[.slice Sl nl cl, .slice Dl ml dl] 26) = vl at *
        generalize w5.heap.size = gl at *
        replace H := Lib.hid h6
        clear h6
        have t0 := H.out.cell 16 0 rfl rfl
        have t1 := H.out.cell 16 1 rfl rfl
        have C6 := ref4Slice_any (cf := ns) (cz := kf2) (ten_mk (H.out.ownInts 17 rfl).2.2 (H.out.ownInts 17 rfl).2.1 (H.out.ownInts 18 rfl).2.2 (H.out.ownInts 18 rfl).2.1) ((H.out.ownInts 5 rfl).2.2) ((H.out.ownInts 4 rfl).2.2)
        rw [HT1.out] at C6
        go_wp2_with fail
        refine C6.mono ?_; rintro e6 w6 ⟨⟨u, rfl, hu⟩, hb⟩
        obtain ⟨Sm, nm, cm, Dm, mm, dm, rfl, _, _, _, _, _, h5⟩ := H.out.addTen hb hu
        have h6 := h5.allocBox w6.heap.size 26 [.slice Sm nm cm, .slice Dm mm dm] rfl
        clear C6 hu hb h5 t0 t1
        go_upto_region 17 with fail
        generalize w6.alloc (.cells #[.slice Sm nm cm, .slice Dm mm dm] 26) = vm at *
        generalize w6.heap.size = gm at *
        replace H := Lib.hid h6
        clear h6
        have HE6 := Lib.hid (show foldR k (1 :: 4 :: r) da1 [0, 1] = (0, r, foldD k (1 :: 4 :: r) da1 [0, 1]) from by rw [foldR_ok HK.out HC2.out (rises_of01 (by simp)) (by rw [rest01]; exact HR0.out), rest01])
        have l0 := H.out.cell 3 0 rfl rfl
        have l1 := H.out.cell 3 1 rfl rfl
        replace H := Lib.hid (H.out.lit 3 #[.int .i64 0, .int .i64 1] [0, 1] 2 vm.heap.size rfl rfl rfl)
        have C7 := fdDo_any (ca := 2) k (ten_mk (H.out.ownInts 5 rfl).2.2 (H.out.ownInts 5 rfl).2.1 (H.out.ownInts 6 rfl).2.2 (H.out.ownInts 6 rfl).2.1) ((H.out.ownInts 0 rfl).2.2)
        rw [HE6.out] at C7
        go_wp2_with fail
        refine C7.mono ?_; rintro e7 w7 ⟨⟨u, rfl, hu⟩, hb⟩
        obtain ⟨Sp, np, cp, Dp, mp, dp, rfl, _, _, _, _, _, h5⟩ := H.out.addTen hb hu
        have h6 := h5.allocBox w7.heap.size 26 [.slice Sp np cp, .slice Dp mp dp] rfl
        clear C7 hu hb h5 l0 l1
        go_upto_region 18 with fail
        generalize w7.alloc (.cells #[.slice Sp np cp, .slice Dp mp dp] 26) = vp at *
        generalize w7.heap.size = gp at *
        replace H := Lib.hid h6
        clear h6
        replace H := Lib.hid (H.out.sub (l' := [.box gp 26 [.slice Sp np cp, .slice Dp mp dp], .own 3 (.slice Sp np cp) np (r), .own 2 (.slice Dp mp dp) mp (foldD k (1 :: 4 :: r) da1 [0, 1]), .box gm 26 [.slice Sm nm cm, .slice Dm mm dm], .own 3 (.slice Sm nm cm) nm (2 :: 4 :: r), .own 2 (.slice Dm mm dm) mm (da2), .box gl 26 [.slice Sl nl cl, .slice Dl ml dl], .own 3 (.slice Sl nl cl) nl (1 :: 4 :: r), .own 2 (.slice Dl ml dl) ml (da1), .own 3 (.slice (some ⟨g1, 0, none⟩) ns kf1) ns (1 :: 4 :: r), .own 3 (.slice (some ⟨g2, 0, none⟩) ns kf2) ns (2 :: 4 :: r), .own 3 (.slice (some ⟨g3, 0, none⟩) ns ns) ns ((List.replicate ns 0 : List Int).set 0 1), .own 3 (.slice (some ⟨gz, 0, none⟩) ns ns) ns (List.replicate ns 0), .box gc 26 [.slice Sc nc cc, .slice Dc mc dc], .own 3 (.slice Sc nc cc) nc (r), .own 2 (.slice Dc mc dc) mc (foldD k (3 :: 4 :: r) dt [0, 1]), .box gb 26 [.slice Sb nb cb, .slice Db mb db], .own 3 (.slice Sb nb cb) nb (r), .own 2 (.slice Db mb db) mb (foldD k (3 :: 4 :: r) dt [0, 1]), .box ga 26 [.slice Sa na ca, .slice Da ma da], .own 3 (.slice Sa na ca) na (3 :: r), .own 2 (.slice Da ma da) ma (foldD k (3 :: 4 :: r) dt [1]), .box gt 26 [.slice St nt kt, .slice Dt mt jt], .own 3 (.slice St nt kt) nt (3 :: 4 :: r), .own 2 (.slice Dt mt jt) mt dt, .own 3 (.slice As ns cs) ns (3 :: 4 :: r), .tape w.heap.size]) [0, 1, 2, 4, 5, 6, 7, 8, 9, 10, 11, 12, 13, 14, 15, 16, 17, 18, 19, 20, 21, 22, 23, 24, 25, 26, 27] rfl (by decide))
        have HE7 := Lib.hid (show foldR k (2 :: 4 :: r) da2 [0, 1] = (0, r, foldD k (2 :: 4 :: r) da2 [0, 1]) from by rw [foldR_ok HK.out HT2.out (rises_of01 (by simp)) (by rw [rest01]; exact HR0.out), rest01])
        have m0 := H.out.cell 3 0 rfl rfl
        have m1 := H.out.cell 3 1 rfl rfl
        replace H := Lib.hid (H.out.lit 3 #[.int .i64 0, .int .i64 1] [0, 1] 2 vp.heap.size rfl rfl rfl)
        have C8 := fdDo_any (ca := 2) k (ten_mk (H.out.ownInts 5 rfl).2.2 (H.out.ownInts 5 rfl).2.1 (H.out.ownInts 6 rfl).2.2 (H.out.ownInts 6 rfl).2.1) ((H.out.ownInts 0 rfl).2.2)
        rw [HE7.out] at C8
        go_wp2_with fail
        refine C8.mono ?_; rintro e8 w8 ⟨⟨u, rfl, hu⟩, hb⟩
        obtain ⟨Sq, nq, cq, Dq, mq, dq, rfl, _, _, _, _, _, h5⟩ := H.out.addTen hb hu
        have h6 := h5.allocBox w8.heap.size 26 [.slice Sq nq cq, .slice Dq mq dq] rfl
        clear C8 hu hb h5 m0 m1
        go_upto_region 19 with fail
        generalize w8.alloc (.cells #[.slice Sq nq cq, .slice Dq mq dq] 26) = vq at *
        generalize w8.heap.size = gq at *
        replace H := Lib.hid h6
        clear h6
        replace H := Lib.hid (H.out.sub (l' := [.box gq 26 [.slice Sq nq cq, .slice Dq mq dq], .own 3 (.slice Sq nq cq) nq (r), .own 2 (.slice Dq mq dq) mq (foldD k (2 :: 4 :: r) da2 [0, 1]), .box gp 26 [.slice Sp np cp, .slice Dp mp dp], .own 3 (.slice Sp np cp) np (r), .own 2 (.slice Dp mp dp) mp (foldD k (1 :: 4 :: r) da1 [0, 1]), .box gm 26 [.slice Sm nm cm, .slice Dm mm dm], .own 3 (.slice Sm nm cm) nm (2 :: 4 :: r), .own 2 (.slice Dm mm dm) mm (da2), .box gl 26 [.slice Sl nl cl, .slice Dl ml dl], .own 3 (.slice Sl nl cl) nl (1 :: 4 :: r), .own 2 (.slice Dl ml dl) ml (da1), .own 3 (.slice (some ⟨g1, 0, none⟩) ns kf1) ns (1 :: 4 :: r), .own 3 (.slice (some ⟨g2, 0, none⟩) ns kf2) ns (2 :: 4 :: r), .own 3 (.slice (some ⟨g3, 0, none⟩) ns ns) ns ((List.replicate ns 0 : List Int).set 0 1), .own 3 (.slice (some ⟨gz, 0, none⟩) ns ns) ns (List.replicate ns 0), .box gc 26 [.slice Sc nc cc, .slice Dc mc dc], .own 3 (.slice Sc nc cc) nc (r), .own 2 (.slice Dc mc dc) mc (foldD k (3 :: 4 :: r) dt [0, 1]), .box gb 26 [.slice Sb nb cb, .slice Db mb db], .own 3 (.slice Sb nb cb) nb (r), .own 2 (.slice Db mb db) mb (foldD k (3 :: 4 :: r) dt [0, 1]), .box ga 26 [.slice Sa na ca, .slice Da ma da], .own 3 (.slice Sa na ca) na (3 :: r), .own 2 (.slice Da ma da) ma (foldD k (3 :: 4 :: r) dt [1]), .box gt 26 [.slice St nt kt, .slice Dt mt jt], .own 3 (.slice St nt kt) nt (3 :: 4 :: r), .own 2 (.slice Dt mt jt) mt dt, .own 3 (.slice As ns cs) ns (3 :: 4 :: r), .tape w.heap.size]) [0, 1, 2, 4, 5, 6, 7, 8, 9, 10, 11, 12, 13, 14, 15, 16, 17, 18, 19, 20, 21, 22, 23, 24, 25, 26, 27, 28, 29, 30] rfl (by decide))
        have hzM : (Sh.size r).toNat = M := by rw [size_of_pd HR0.out, HM.out]; omega
        have hmc : M = mc := by have h1 := (H.out.ownS 18 rfl).len; rw [foldD_length, rest01] at h1; omega
        subst hmc
        have hmp : M = mp := by have h1 := (H.out.ownS 5 rfl).len; rw [foldD_length, rest01] at h1; omega
        subst hmp
        have hmq : M = mq := by have h1 := (H.out.ownS 2 rfl).len; rw [foldD_length, rest01] at h1; omega
        subst hmq
        clear hzM
        have dMM : ((M : Int) != (M : Int)) = false := by simp
        have p0 := H.out.cell 3 0 rfl rfl
        have p1 := H.out.cell 3 1 rfl rfl
        have q0 := H.out.cell 0 0 rfl rfl
        have q1 := H.out.cell 0 1 rfl rfl
        have c0 := H.out.cell 16 0 rfl rfl
        have c1 := H.out.cell 16 1 rfl rfl
        go_wp2_with fail
        have hMle : M ≤ 9223372036854775807 := (H.out.ownInts 18 rfl).2.2.le
        clear p0 p1 q0 q1 c0 c1
        go_loopw [148] (fun kv wr => ∃ i : Nat, kv = .int .i64 i ∧ i ≤ M ∧ Sep w wr [.box gq 26 [.slice Sq nq cq, .slice Dq M dq], .own 3 (.slice Sq nq cq) nq (r), .own 2 (.slice Dq M dq) M (foldD k (2 :: 4 :: r) da2 [0, 1]), .box gp 26 [.slice Sp np cp, .slice Dp M dp], .own 3 (.slice Sp np cp) np (r), .own 2 (.slice Dp M dp) M (foldD k (1 :: 4 :: r) da1 [0, 1]), .box gm 26 [.slice Sm nm cm, .slice Dm mm dm], .own 3 (.slice Sm nm cm) nm (2 :: 4 :: r), .own 2 (.slice Dm mm dm) mm (da2), .box gl 26 [.slice Sl nl cl, .slice Dl ml dl], .own 3 (.slice Sl nl cl) nl (1 :: 4 :: r), .own 2 (.slice Dl ml dl) ml (da1), .own 3 (.slice (some ⟨g1, 0, none⟩) ns kf1) ns (1 :: 4 :: r), .own 3 (.slice (some ⟨g2, 0, none⟩) ns kf2) ns (2 :: 4 :: r), .own 3 (.slice (some ⟨g3, 0, none⟩) ns ns) ns ((List.replicate ns 0 : List Int).set 0 1), .own 3 (.slice (some ⟨gz, 0, none⟩) ns ns) ns (List.replicate ns 0), .box gc 26 [.slice Sc nc cc, .slice Dc M dc], .own 3 (.slice Sc nc cc) nc (r), .own 2 (.slice Dc M dc) M (foldD k (3 :: 4 :: r) dt [0, 1]), .box gb 26 [.slice Sb nb cb, .slice Db mb db], .own 3 (.slice Sb nb cb) nb (r), .own 2 (.slice Db mb db) mb (foldD k (3 :: 4 :: r) dt [0, 1]), .box ga 26 [.slice Sa na ca, .slice Da ma da], .own 3 (.slice Sa na ca) na (3 :: r), .own 2 (.slice Da ma da) ma (foldD k (3 :: 4 :: r) dt [1]), .box gt 26 [.slice St nt kt, .slice Dt mt jt], .own 3 (.slice St nt kt) nt (3 :: 4 :: r), .own 2 (.slice Dt mt jt) mt dt, .own 3 (.slice As ns cs) ns (3 :: 4 :: r), .tape w.heap.size]) (fun kv _ => M - (intOf kv).toNat)
        case atStart => exact ⟨0, rfl, by omega, H.out⟩
        case round =>
          clear H
          obtain ⟨i, rfl, hi, hS⟩ := hrel
          have H := Lib.hid hS
          clear hS
          by_cases hlm : i < M
          · have Ip := (H.out.ownInts 5 rfl).2.2
            have Iq := (H.out.ownInts 2 rfl).2.2
            have Ic := (H.out.ownInts 18 rfl).2.2
            have p0 := H.out.cell 3 0 rfl rfl
            have p1 := H.out.cell 3 1 rfl rfl
            have q0 := H.out.cell 0 0 rfl rfl
            have q1 := H.out.cell 0 1 rfl rfl
            have c0 := H.out.cell 16 0 rfl rfl
            have c1 := H.out.cell 16 1 rfl rfl
            obtain ⟨xa, xb, xc, hxa, hxb, hxc, hs1, hs2⟩ := parts_join HK.out HRT.out HR0.out HM.out HFD.out HC3.out HC4.out HT3.out HT4.out hlm
            obtain ⟨ada, za, hA, _, hz, hcza, _⟩ := Ip.at_ (k := i) hlm
            subst hA
            rw [hxa] at hz
            injection hz with hz
            subst hz
            clear hxa
            obtain ⟨adb, zb, hA, _, hz, hczb, _⟩ := Iq.at_ (k := i) hlm
            subst hA
            rw [hxb] at hz
            injection hz with hz
            subst hz
            clear hxb
            obtain ⟨adc, zc, hA, _, hz, hczc, _⟩ := Ic.at_ (k := i) hlm
            subst hA
            rw [hxc] at hz
            injection hz with hz
            subst hz
            clear hxc
            have CS1 := fun w => fdStep_any k xa xb w
            have CS2 := fun w => fdStep_any k (noneF k) xc w
            have CN := fun w => fdNone_any k w
            simp only [hs1] at CS1
            simp only [hs2] at CS2
            have dx : (xc != xc) = false := by simp
            clear hs1 hs2
            go_wp2_with fail
            go_quiet (first | (go_at_call 9; with_reducible exact quietS (CS1 _)) | (go_at_call 9; with_reducible exact quietS (CS2 _)) | (go_at_call 18; with_reducible exact quietS (CN _)))
            go_wp2
            go_roundw
            case rel => exact ⟨i + 1, by go_num, by omega, H.out.drewN _⟩
            case measure => simp [intOf]; omega
          · have hin : M = i := by omega
            go_wp2_with fail
            refine (l6known_any _).mono ?_; rintro e9 w9 ⟨rfl, hb⟩
            replace H := Lib.hid (H.out.below hb)
            clear hb
            go_wp2
            go_ret
            exact ⟨rfl, H.out.base⟩
end Go.Proofs.Ytgdgpggicgfddaa
