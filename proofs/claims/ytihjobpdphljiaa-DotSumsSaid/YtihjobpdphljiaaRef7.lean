/- Contracts of the reference, chapter 7. -/
import Derived.Test.YtihjobpdphljiaaDt
import Derived.Test.YtihjobpdphljiaaRef5
import Derived.Test.YtihjobpdphljiaaSepC
import Derived.Test.YtihjobpdphljiaaKitReg
import Derived.StillTailTactics
namespace Go.Proofs.Ytihjobpdphljiaa
open Go.RowKit

/-- l[k:] -/
theorem run_dropK {w1 : World} {A : Option Addr} {n c k : Nat} {xs : List Int} (q : Int) (hq : q = (k : Int)) (hI : Ints w1 A n xs) (hk : k ≤ n) (hn : 0 < n) (hnc : n ≤ c) : ∃ A2 : Option Addr, (∀ w, (Instr.slice 22 (.slice A n c) (some (.int .i64 q)) none none).run Try.prog w = .ok (.slice A2 (n - k) (c - k)) w) ∧ Ints w1 A2 (n - k) (xs.drop k) := by
  subst hq
  have hu : Try.prog.underlying 22 = some (.slice 3) := by kernel_rfl
  have hd := hI.drop (k := k) hk hnc
  obtain ⟨a, rfl, _⟩ := hI.2.2.2 hn
  by_cases hc : c = k
  · refine ⟨some a, fun w => ?_, by rwa [if_pos hc] at hd⟩
    subst hc
    go_simp
  · refine ⟨some (a.add k), fun w => ?_, by rwa [if_neg hc] at hd⟩
    go_simp
/-- The same of a list of one's own, nil or not. -/
def dropA (A : Option Addr) (c k : Nat) : Option Addr := if c = k then A else A.map (·.add k)
theorem Ints.dropA {w : World} {A : Option Addr} {n : Nat} {xs : List Int} (h : Ints w A n xs) {k c : Nat} (hk : k ≤ n) (hc : n ≤ c) : Ints w (dropA A c k) (n - k) (xs.drop k) := h.drop hk hc
theorem run_dropO {w1 : World} {base : Nat} {e : TypeId} {A : Option Addr} {n c k : Nat} {xs : List Int} (h : OwnS w1 base e (.slice A n c) n xs) (hk : k ≤ n) : ∀ w, (Instr.slice 22 (.slice A n c) (some (.int .i64 (k : Int))) none none).run Try.prog w = .ok (.slice (dropA A c k) (n - k) (c - k)) w := by
  intro w
  have hu : Try.prog.underlying 22 = some (.slice 3) := by kernel_rfl
  obtain ⟨A', c', hv, hnc, hI, _⟩ := h.form
  injection hv with _ _ h3
  subst h3
  rcases h.1.2 with ⟨hv2, _⟩ | ⟨g, cap, cur, hv2, _⟩
  · injection hv2 with h1 h2 h3
    subst h1; subst h2; subst h3
    obtain rfl : k = 0 := by omega
    go_simp
    rw [dropA, if_pos rfl]
  · injection hv2 with h1 _ h3
    subst h1; subst h3
    by_cases hc : c = k
    · subst hc
      go_simp
      rw [dropA, if_pos rfl]
    · go_simp
      rw [dropA, if_neg hc]
theorem run_takeO {w1 : World} {base : Nat} {e : TypeId} {A : Option Addr} {n c k : Nat} {xs : List Int} (h : OwnS w1 base e (.slice A n c) n xs) (hk : k ≤ n) : ∀ w, (Instr.slice 22 (.slice A n c) none (some (.int .i64 (k : Int))) none).run Try.prog w = .ok (.slice A k c) w := by
  intro w
  have hu : Try.prog.underlying 22 = some (.slice 3) := by kernel_rfl
  obtain ⟨A', c', hv, hnc, hI, _⟩ := h.form
  injection hv with _ _ h3
  subst h3
  have hkc : k ≤ c := by omega
  rcases h.1.2 with ⟨hv2, _⟩ | ⟨g, cap, cur, hv2, _⟩
  · injection hv2 with h1 h2 h3
    subst h1; subst h2; subst h3
    obtain rfl : k = 0 := by omega
    go_simp
  · injection hv2 with h1 _ h3
    subst h1; subst h3
    go_simp
theorem Sep.emptyAt {w0 w : World} {l : List Chunk} (h : Sep w0 w l) (e : TypeId) (g : Nat) (hg : w.heap.size = g) : Sep w0 (w.alloc (.cells #[] e)) (.own e (.slice (some ⟨g, 0, none⟩) 0 0) 0 [] :: l) := by
  subst hg; exact h.empty e
set_option maxRecDepth 100000 in
set_option maxHeartbeats 3200000 in
theorem refDotShape_any {w : World} {A B : Option Addr} {na ca nb cb : Nat} {a b : List Int} (n : Int) (hA : Ints w A na a) (hB : Ints w B nb b) (ka : na ≤ ca) (kb : nb ≤ cb) :
    Calls Try.prog 23 #[.slice A na ca, .slice B nb cb, .int .i64 n] w fun e w' => (∃ v m, e = .returned (.tuple #[v, .int .i64 (dsR a b n).1]) ∧ OwnS w' w.heap.size 3 v m (dsR a b n).2) ∧ Below w.heap.size w w' := by
  have hla := hA.len
  have hlb := hB.len
  have hlea := hA.le
  have hleb := hB.le
  by_cases h0 : n < 0
  · have d0 : decide (n < 0) = true := by simpa using h0
    have HX := Lib.hid (dsR_arg (a := a) (b := b) (n := n) (by omega))
    go_enter Try.func23, Try.ntmps23
    go_wp2
    go_ret2
    rw [HX.out]
    exact ⟨⟨_, 0, rfl, OwnS.nil_ _ _ _⟩, Below.refl _ _⟩
  have d0 : decide (n < 0) = false := by simpa using h0
  obtain ⟨k, rfl⟩ := Int.eq_ofNat_of_zero_le (by omega : 0 ≤ n)
  clear h0
  by_cases h1 : na ≤ k
  · have d1 : decide (na ≤ k) = true := by simpa using h1
    have HX := Lib.hid (dsR_arg (a := a) (b := b) (n := (k : Int)) (by omega))
    clear hla hlb
    go_enter Try.func23, Try.ntmps23
    go_wp2
    go_ret2
    rw [HX.out]
    exact ⟨⟨_, 0, rfl, OwnS.nil_ _ _ _⟩, Below.refl _ _⟩
  have d1 : decide (na ≤ k) = false := by simpa using h1
  by_cases h2 : nb ≤ k
  · have d2 : decide (nb ≤ k) = true := by simpa using h2
    have HX := Lib.hid (dsR_arg (a := a) (b := b) (n := (k : Int)) (by omega))
    clear hla hlb
    go_enter Try.func23, Try.ntmps23
    go_wp2
    go_ret2
    rw [HX.out]
    exact ⟨⟨_, 0, rfl, OwnS.nil_ _ _ _⟩, Below.refl _ _⟩
  have d2 : decide (nb ≤ k) = false := by simpa using h2
  have hka : k < na := by omega
  have hkb : k < nb := by omega
  clear h1 h2
  have HAB := Lib.hid (show k < a.length ∧ k < b.length by omega)
  obtain ⟨pa, x, hpA, _, hx, hcx, hfx⟩ := hA.at_ (k := na - 1) (by omega)
  obtain ⟨pb, y, hpB, _, hy, hcy, hfy⟩ := hB.at_ (k := k) hkb
  subst hpA
  subst hpB
  have HX := Lib.hid (show a.getD (a.length - 1) 0 = x by rw [List.getD_eq_getElem?_getD, hla, hx]; rfl)
  have HY := Lib.hid (show b.getD k 0 = y by rw [List.getD_eq_getElem?_getD, hy]; rfl)
  have HLA := Lib.hid hla
  have HLB := Lib.hid hlb
  have IA := Lib.hid (hA.take (k := k) (by omega))
  have IB := Lib.hid (hB.take (k := k) (by omega))
  have HA := Lib.hid hA
  have HB := Lib.hid hB
  clear hx hy hfx hfy hla hlb hA hB
  have hwn : IntKind.i64.wrap ((na : Int) - 1) = ((na - 1 : Nat) : Int) := by rw [show (na : Int) - 1 = ((na - 1 : Nat) : Int) by omega]; exact IntWalk.i64_in _ ⟨by omega, by omega⟩
  cases RA : Sh.right a with
  | false =>
    have C1 := fun q => refRight_any (c := ca) (HA.out.drewN q)
    simp only [RA] at C1
    replace C1 := Lib.hid C1
    have HX := Lib.hid (dsR_shape HAB.out (by rw [dotFit, RA]; rfl))
    go_enter Try.func23, Try.ntmps23
    go_upto_region 3 with fail
    go_quiet (first | (go_at_call 32; with_reducible exact quietS (C1.out _)))
    go_wp2
    go_ret2
    rw [HX.out]
    exact ⟨⟨_, 0, rfl, OwnS.nil_ _ _ _⟩, (Sep.nil w).drewN _ |>.base⟩
  | true =>
    have C1 := fun q => refRight_any (c := ca) (HA.out.drewN q)
    simp only [RA] at C1
    replace C1 := Lib.hid C1
    cases RB : Sh.right b with
    | false =>
      have C2 := fun q => refRight_any (c := cb) (HB.out.drewN q)
      simp only [RB] at C2
      replace C2 := Lib.hid C2
      have HX := Lib.hid (dsR_shape HAB.out (by rw [dotFit, RA, RB]; rfl))
      go_enter Try.func23, Try.ntmps23
      go_upto_region 3 with fail
      go_quiet (first | (go_at_call 32; with_reducible exact quietS (C1.out _)) | (go_at_call 32; with_reducible exact quietS (C2.out _)))
      go_wp2
      go_ret2
      rw [HX.out]
      exact ⟨⟨_, 0, rfl, OwnS.nil_ _ _ _⟩, (Sep.nil w).drewN _ |>.base⟩
    | true =>
      have C2 := fun q => refRight_any (c := cb) (HB.out.drewN q)
      simp only [RB] at C2
      replace C2 := Lib.hid C2
      cases RP : (a.take k == b.take k) with
      | false =>
        have C3 := fun q => refInts_any (c := ca) (d := cb) (IA.out.drewN q) (IB.out.drewN q)
        simp only [RP] at C3
        replace C3 := Lib.hid C3
        have HX := Lib.hid (dsR_shape HAB.out (by rw [dotFit, RA, RB, show decide (a.take k = b.take k) = false from decide_eq_false (by simpa using RP)]; rfl))
        go_enter Try.func23, Try.ntmps23
        go_upto_region 3 with fail
        go_quiet (first | (go_at_call 32; with_reducible exact quietS (C1.out _)) | (go_at_call 32; with_reducible exact quietS (C2.out _)) | (go_at_call 16; with_reducible exact (C3.out _).mono fun _ _ ⟨e, q, h⟩ => ⟨e, _, h.trans (World.drewN_drewN _ _ _)⟩))
        go_wp2
        go_ret2
        rw [HX.out]
        exact ⟨⟨_, 0, rfl, OwnS.nil_ _ _ _⟩, (Sep.nil w).drewN _ |>.base⟩
      | true =>
        have C3 := fun q => refInts_any (c := ca) (d := cb) (IA.out.drewN q) (IB.out.drewN q)
        simp only [RP] at C3
        replace C3 := Lib.hid C3
        by_cases hxy : x = y
        · subst hxy
          have HFT := Lib.hid (show dotFit a b k = true from dotFit_iff.2 ⟨RA, RB, by simpa using RP, HX.out.trans HY.out.symm⟩)
          have dxx : (x != x) = false := by simp
          have hna4 : na ≤ 4 := by have := (Sh.right_iff.1 RA).1; have := HLA.out; omega
          have hnb4 : nb ≤ 4 := by have := (Sh.right_iff.1 RB).1; have := HLB.out; omega
          go_enter Try.func23, Try.ntmps23
          go_upto_region 3 with fail
          go_quiet (first | (go_at_call 32; with_reducible exact quietS (C1.out _)) | (go_at_call 32; with_reducible exact quietS (C2.out _)) | (go_at_call 16; with_reducible exact (C3.out _).mono fun _ _ ⟨e, q, h⟩ => ⟨e, _, h.trans (World.drewN_drewN _ _ _)⟩))
          go_upto_region 5 with fail
          have H := Lib.hid ((Sep.nil w).drewN nq).drew
          generalize w.drewN nq = w5 at *
          clear C3 HY dxx hcx hcy
          obtain ⟨A2, hsl, hI2⟩ := run_dropK ((k : Int) + 1) (k := k + 1) (by omega) HB.out (by omega) (by omega) kb
          have HI2 := Lib.hid hI2
          clear hI2
          have hwk : IntKind.i64.wrap ((k : Int) + 1) = (k : Int) + 1 := IntWalk.i64_in _ ⟨by omega, by omega⟩
          have HI1 := Lib.hid (HA.out.take (k := na - 1) (by omega))
          have H1 := Lib.hid (H.out.empty 3)
          have hca1 : na ≤ ca + 1 := by omega
          refine wp_region_held_drew (S := (fun _ => True)) (by kernel_rfl) ?_ (fun hHeld => ?_)
          · trivial
          first | (refine takeU (i := 1) (oi := { dst := some 55, op := Op.move (Operand.tmp 0), type := 22, pos := "ref.go:326", after := #[], guard := none }) rfl (by kernel_rfl) (by kernel_rfl) (by kernel_rfl) (fun _ _ _ h => h) ?_ hHeld ?_; (focus rfl)) | (refine takeW (i := 1) (oi := { dst := some 55, op := Op.move (Operand.tmp 0), type := 22, pos := "ref.go:326", after := #[], guard := none }) ?_ rfl (by kernel_rfl) (by kernel_rfl) (by kernel_rfl) (fun _ _ _ h => h) ?_ ?_ hHeld ?_; rotate_left; (focus rfl); (focus (intro wq hSq; obtain sq0 := hSq; (first | (go_simp; done) | (go_simp; with_reducible rfl)))))
          try simp only [Act.put, List.setIfInBounds_toArray, List.set_cons_zero, List.set_cons_succ]
          first | (refine takeU (i := 2) (oi := { dst := some 56, op := Op.move (Operand.tmp 0), type := 22, pos := "ref.go:326", after := #[], guard := none }) rfl (by kernel_rfl) (by kernel_rfl) (by kernel_rfl) (fun _ _ _ h => h) ?_ hHeld ?_; (focus rfl)) | (refine takeW (i := 2) (oi := { dst := some 56, op := Op.move (Operand.tmp 0), type := 22, pos := "ref.go:326", after := #[], guard := none }) ?_ rfl (by kernel_rfl) (by kernel_rfl) (by kernel_rfl) (fun _ _ _ h => h) ?_ ?_ hHeld ?_; rotate_left; (focus rfl); (focus (intro wq hSq; obtain sq0 := hSq; (first | (go_simp; done) | (go_simp; with_reducible rfl)))))
          try simp only [Act.put, List.setIfInBounds_toArray, List.set_cons_zero, List.set_cons_succ]
          first | (refine takeU (i := 3) (oi := { dst := some 57, op := Op.call { callee := Callee.builtin Builtin.len, args := #[Operand.tmp 56], argTypes := #[22] }, type := 3, pos := "ref.go:326", after := #[{ on := 2, ground := Ground.data }], guard := none }) rfl (by kernel_rfl) (by kernel_rfl) (by kernel_rfl) (fun _ _ _ h => h) ?_ hHeld ?_; (focus rfl)) | (refine takeW (i := 3) (oi := { dst := some 57, op := Op.call { callee := Callee.builtin Builtin.len, args := #[Operand.tmp 56], argTypes := #[22] }, type := 3, pos := "ref.go:326", after := #[{ on := 2, ground := Ground.data }], guard := none }) ?_ rfl (by kernel_rfl) (by kernel_rfl) (by kernel_rfl) (fun _ _ _ h => h) ?_ ?_ hHeld ?_; rotate_left; (focus rfl); (focus (intro wq hSq; obtain sq0 := hSq; (first | (go_simp; done) | (go_simp; with_reducible rfl)))))
          try simp only [Act.put, List.setIfInBounds_toArray, List.set_cons_zero, List.set_cons_succ]
          first | (refine takeU (i := 4) (oi := { dst := some 58, op := Op.binOp BinOp.sub 3 (Operand.tmp 57) (Operand.const (Value.int IntKind.i64 1)) 3, type := 3, pos := "ref.go:326", after := #[{ on := 3, ground := Ground.data }], guard := none }) rfl (by kernel_rfl) (by kernel_rfl) (by kernel_rfl) (fun _ _ _ h => h) ?_ hHeld ?_; (focus rfl)) | (refine takeW (i := 4) (oi := { dst := some 58, op := Op.binOp BinOp.sub 3 (Operand.tmp 57) (Operand.const (Value.int IntKind.i64 1)) 3, type := 3, pos := "ref.go:326", after := #[{ on := 3, ground := Ground.data }], guard := none }) ?_ rfl (by kernel_rfl) (by kernel_rfl) (by kernel_rfl) (fun _ _ _ h => h) ?_ ?_ hHeld ?_; rotate_left; (focus rfl); (focus (intro wq hSq; obtain sq0 := hSq; (first | (go_simp; done) | (go_simp; with_reducible rfl)))))
          try simp only [Act.put, List.setIfInBounds_toArray, List.set_cons_zero, List.set_cons_succ]
          first | (refine takeU (i := 5) (oi := { dst := some 59, op := Op.slice 22 (Operand.tmp 55) none (some (Operand.tmp 58)) none, type := 22, pos := "ref.go:326", after := #[{ on := 1, ground := Ground.data }, { on := 4, ground := Ground.data }], guard := none }) rfl (by kernel_rfl) (by kernel_rfl) (by kernel_rfl) (fun _ _ _ h => h) ?_ hHeld ?_; (focus rfl)) | (refine takeW (i := 5) (oi := { dst := some 59, op := Op.slice 22 (Operand.tmp 55) none (some (Operand.tmp 58)) none, type := 22, pos := "ref.go:326", after := #[{ on := 1, ground := Ground.data }, { on := 4, ground := Ground.data }], guard := none }) ?_ rfl (by kernel_rfl) (by kernel_rfl) (by kernel_rfl) (fun _ _ _ h => h) ?_ ?_ hHeld ?_; rotate_left; (focus rfl); (focus (intro wq hSq; obtain sq0 := hSq; (first | (go_simp; done) | (go_simp; with_reducible rfl)))))
          try simp only [Act.put, List.setIfInBounds_toArray, List.set_cons_zero, List.set_cons_succ]
          first | (refine takeU (i := 7) (oi := { dst := some 61, op := Op.move (Operand.tmp 1), type := 22, pos := "ref.go:326", after := #[], guard := none }) rfl (by kernel_rfl) (by kernel_rfl) (by kernel_rfl) (fun _ _ _ h => h) ?_ hHeld ?_; (focus rfl)) | (refine takeW (i := 7) (oi := { dst := some 61, op := Op.move (Operand.tmp 1), type := 22, pos := "ref.go:326", after := #[], guard := none }) ?_ rfl (by kernel_rfl) (by kernel_rfl) (by kernel_rfl) (fun _ _ _ h => h) ?_ ?_ hHeld ?_; rotate_left; (focus rfl); (focus (intro wq hSq; obtain sq0 := hSq; (first | (go_simp; done) | (go_simp; with_reducible rfl)))))
          try simp only [Act.put, List.setIfInBounds_toArray, List.set_cons_zero, List.set_cons_succ]
          first | (refine takeU (i := 8) (oi := { dst := some 62, op := Op.move (Operand.tmp 2), type := 3, pos := "ref.go:326", after := #[], guard := none }) rfl (by kernel_rfl) (by kernel_rfl) (by kernel_rfl) (fun _ _ _ h => h) ?_ hHeld ?_; (focus rfl)) | (refine takeW (i := 8) (oi := { dst := some 62, op := Op.move (Operand.tmp 2), type := 3, pos := "ref.go:326", after := #[], guard := none }) ?_ rfl (by kernel_rfl) (by kernel_rfl) (by kernel_rfl) (fun _ _ _ h => h) ?_ ?_ hHeld ?_; rotate_left; (focus rfl); (focus (intro wq hSq; obtain sq0 := hSq; (first | (go_simp; done) | (go_simp; with_reducible rfl)))))
          try simp only [Act.put, List.setIfInBounds_toArray, List.set_cons_zero, List.set_cons_succ]
          first | (refine takeU (i := 9) (oi := { dst := some 63, op := Op.binOp BinOp.add 3 (Operand.tmp 62) (Operand.const (Value.int IntKind.i64 1)) 3, type := 3, pos := "ref.go:326", after := #[{ on := 8, ground := Ground.data }], guard := none }) rfl (by kernel_rfl) (by kernel_rfl) (by kernel_rfl) (fun _ _ _ h => h) ?_ hHeld ?_; (focus rfl)) | (refine takeW (i := 9) (oi := { dst := some 63, op := Op.binOp BinOp.add 3 (Operand.tmp 62) (Operand.const (Value.int IntKind.i64 1)) 3, type := 3, pos := "ref.go:326", after := #[{ on := 8, ground := Ground.data }], guard := none }) ?_ rfl (by kernel_rfl) (by kernel_rfl) (by kernel_rfl) (fun _ _ _ h => h) ?_ ?_ hHeld ?_; rotate_left; (focus rfl); (focus (intro wq hSq; obtain sq0 := hSq; (first | (go_simp; done) | (go_simp; with_reducible rfl)))))
          try simp only [Act.put, List.setIfInBounds_toArray, List.set_cons_zero, List.set_cons_succ]
          first | (refine takeU (i := 10) (oi := { dst := some 64, op := Op.slice 22 (Operand.tmp 61) (some (Operand.tmp 63)) none none, type := 22, pos := "ref.go:326", after := #[{ on := 7, ground := Ground.data }, { on := 9, ground := Ground.data }], guard := none }) rfl (by kernel_rfl) (by kernel_rfl) (by kernel_rfl) (fun _ _ _ h => h) ?_ hHeld ?_; (focus rfl)) | (refine takeW (i := 10) (oi := { dst := some 64, op := Op.slice 22 (Operand.tmp 61) (some (Operand.tmp 63)) none none, type := 22, pos := "ref.go:326", after := #[{ on := 7, ground := Ground.data }, { on := 9, ground := Ground.data }], guard := none }) ?_ rfl (by kernel_rfl) (by kernel_rfl) (by kernel_rfl) (fun _ _ _ h => h) ?_ ?_ hHeld ?_; rotate_left; (focus rfl); (focus (intro wq hSq; obtain sq0 := hSq; (first | (go_simp; done) | (go_simp; with_reducible rfl)))))
          try simp only [Act.put, List.setIfInBounds_toArray, List.set_cons_zero, List.set_cons_succ]
          refine wpAnyH_ready (rs := [0]) (by kernel_rfl) (by simp) ?_
          refine AllReadyH.cons (o := { dst := some 54, op := Op.buildSlice 22 0 #[], type := 22, pos := "ref.go:326", after := #[], guard := none }) rfl (fun K hK => ?_) AllReadyH.nil
          go_simp
          try go_wp2_with fail
          refine hK.out _ _ ?_ (fun hHeld2 => ?_)
          · first | assumption | (trivial)
          clear hK K hHeld
          have hHeld := hHeld2; clear hHeld2
          try simp only [Act.put, List.setIfInBounds_toArray, List.set_cons_zero, List.set_cons_succ]
          refine wpAnyH_ready (rs := [6]) (by kernel_rfl) (by simp) ?_
          refine AllReadyH.cons (o := { dst := some 60, op := Op.call { callee := Callee.builtin Builtin.append, args := #[Operand.tmp 54, Operand.tmp 59], argTypes := #[22, 22] }, type := 22, pos := "ref.go:326", after := #[{ on := 0, ground := Ground.data }, { on := 5, ground := Ground.data }], guard := none }) rfl (fun K hK => ?_) AllReadyH.nil
          (refine step_appends_sep rfl (.tmp 54) (.tmp 59) 22 3 rfl Try.underlying22 Try.infoInt H1.out 0 rfl rfl _ (na - 1) ca _ rfl (H1.out.oldI HI1.out) ?_ ?_; (focus omega); intro v2 w2 h2; have H2 := Lib.hid h2; clear h2)
          refine hK.out _ _ ?_ (fun hHeld2 => ?_)
          · first | assumption | (trivial)
          clear hK K hHeld
          have hHeld := hHeld2; clear hHeld2
          try simp only [Act.put, List.setIfInBounds_toArray, List.set_cons_zero, List.set_cons_succ]
          refine wpAnyH_ready (rs := [11]) (by kernel_rfl) (by simp) ?_
          refine AllReadyH.cons (o := { dst := some 65, op := Op.call { callee := Callee.builtin Builtin.append, args := #[Operand.tmp 60, Operand.tmp 64], argTypes := #[22, 22] }, type := 22, pos := "ref.go:326", after := #[{ on := 6, ground := Ground.data }, { on := 10, ground := Ground.data }, { on := 6, ground := Ground.chain }], guard := none }) rfl (fun K hK => ?_) AllReadyH.nil
          (refine step_appends_sep rfl (.tmp 60) (.tmp 64) 22 3 rfl Try.underlying22 Try.infoInt H2.out 0 rfl rfl _ (nb - (k + 1)) (cb - (k + 1)) _ rfl (H2.out.oldI HI2.out) ?_ ?_; (focus omega); intro v3 w3 h3; have H3 := Lib.hid h3; clear h3)
          refine hK.out _ _ ?_ (fun hHeld2 => ?_)
          · first | assumption | (trivial)
          clear hK K hHeld
          have hHeld := hHeld2; clear hHeld2
          try simp only [Act.put, List.setIfInBounds_toArray, List.set_cons_zero, List.set_cons_succ]
          first | (refine takeU (i := 12) (oi := { dst := some 8, op := Op.assign (Operand.tmp 65), type := 22, pos := "ref.go:326", after := #[{ on := 11, ground := Ground.data }, { on := 11, ground := Ground.chain }, { on := 0, ground := Ground.phase }, { on := 1, ground := Ground.phase }, { on := 2, ground := Ground.phase }, { on := 3, ground := Ground.phase }, { on := 4, ground := Ground.phase }, { on := 5, ground := Ground.phase }, { on := 6, ground := Ground.phase }, { on := 7, ground := Ground.phase }, { on := 8, ground := Ground.phase }, { on := 9, ground := Ground.phase }, { on := 10, ground := Ground.phase }, { on := 11, ground := Ground.phase }], guard := none }) rfl (by kernel_rfl) (by kernel_rfl) (by kernel_rfl) (fun _ _ _ h => h) ?_ hHeld ?_; (focus rfl)) | (refine takeW (i := 12) (oi := { dst := some 8, op := Op.assign (Operand.tmp 65), type := 22, pos := "ref.go:326", after := #[{ on := 11, ground := Ground.data }, { on := 11, ground := Ground.chain }, { on := 0, ground := Ground.phase }, { on := 1, ground := Ground.phase }, { on := 2, ground := Ground.phase }, { on := 3, ground := Ground.phase }, { on := 4, ground := Ground.phase }, { on := 5, ground := Ground.phase }, { on := 6, ground := Ground.phase }, { on := 7, ground := Ground.phase }, { on := 8, ground := Ground.phase }, { on := 9, ground := Ground.phase }, { on := 10, ground := Ground.phase }, { on := 11, ground := Ground.phase }], guard := none }) ?_ rfl (by kernel_rfl) (by kernel_rfl) (by kernel_rfl) (fun _ _ _ h => h) ?_ ?_ hHeld ?_; rotate_left; (focus rfl); (focus (intro wq hSq; obtain sq0 := hSq; (first | (go_simp; done) | (go_simp; with_reducible rfl)))))
          try simp only [Act.put, List.setIfInBounds_toArray, List.set_cons_zero, List.set_cons_succ]
          refine wpAnyH_done (by kernel_rfl) ?_ _
          have HL := Lib.hid (show ([] ++ a.take (na - 1)) ++ b.drop (k + 1) = dotS a b k by rw [dotS, HLA.out, List.nil_append])
          rw [HL.out] at H3
          obtain ⟨nz, hnz⟩ : ∃ nz, 0 + (na - 1) + (nb - (k + 1)) = nz := ⟨_, rfl⟩
          rw [hnz] at H3
          obtain ⟨Z, hZ⟩ : ∃ Z, dotS a b k = Z := ⟨_, rfl⟩
          rw [hZ] at H3
          obtain ⟨A5, c5, hv, _, _, _⟩ := (H3.out.ownS 0 rfl).form
          subst hv
          have C5 := refRight_any (c := c5) ((H3.out.ownInts 0 rfl).2.2)
          clear hsl H1 H2 hwk hnz
          go_wp2_with fail
          cases ho : Sh.right Z with
          | false =>
            rw [ho] at C5
            refine C5.mono ?_; rintro e5 w5 ⟨rfl, rfl⟩
            have HX := Lib.hid (dsR_shape2 HAB.out HFT.out (by rw [hZ]; exact ho))
            clear C5 ho hZ
            go_wp2
            go_ret2
            rw [HX.out]
            exact ⟨⟨_, 0, rfl, OwnS.nil_ _ _ _⟩, H3.out.base⟩
          | true =>
            rw [ho] at C5
            refine C5.mono ?_; rintro e5 w5 ⟨rfl, rfl⟩
            have HX := Lib.hid (dsR_ok HAB.out HFT.out (by rw [hZ]; exact ho))
            rw [hZ] at HX
            clear C5 ho hZ
            go_wp2
            go_ret2
            rw [HX.out]
            exact ⟨⟨_, _, rfl, H3.out.ownS 0 rfl⟩, H3.out.base⟩
        · have dxy : (x != y) = true := by simpa using hxy
          have HNE := Lib.hid hxy
          clear hxy
          have HX := Lib.hid (dsR_shape HAB.out (by rw [dotFit, HX.out, HY.out, show decide (x = y) = false from decide_eq_false HNE.out]; simp))
          go_enter Try.func23, Try.ntmps23
          go_upto_region 3 with fail
          go_quiet (first | (go_at_call 32; with_reducible exact quietS (C1.out _)) | (go_at_call 32; with_reducible exact quietS (C2.out _)) | (go_at_call 16; with_reducible exact (C3.out _).mono fun _ _ ⟨e, q, h⟩ => ⟨e, _, h.trans (World.drewN_drewN _ _ _)⟩))
          go_wp2
          go_ret2
          rw [HX.out]
          exact ⟨⟨_, 0, rfl, OwnS.nil_ _ _ _⟩, (Sep.nil w).drewN _ |>.base⟩
set_option maxRecDepth 100000 in
set_option maxHeartbeats 6400000 in
theorem refDot_any {w : World} {v v' : Value} {s d t k : List Int} (n0 : Int) (h : Ten w v s d) (g : Ten w v' t k) :
    Calls Try.prog 21 #[v, v', .int .i64 n0] w fun e w' => (∃ u, e = .returned (.tuple #[u, .int .i64 (dotR s d t k n0).1]) ∧ OTen w' w.heap.size u (dotR s d t k n0).2.1 (dotR s d t k n0).2.2) ∧ Below w.heap.size w w' := by
  obtain ⟨A, n, c, B, m, e, rfl, hnc, hme, hI, hJ⟩ := h
  obtain ⟨A2, n2, c2, B2, m2, e2, rfl, hnc2, hme2, hI2, hJ2⟩ := g
  have h1 := ((((((Sep.nil w).old hJ2).old hI2).old hJ).old hI).allocBox w.heap.size 26 [.slice A n c, .slice B m e] rfl).allocBox (w.heap.size + 1) 26 [.slice A2 n2 c2, .slice B2 m2 e2] (by simp)
  replace h1 := h1.allocBox (w.heap.size + 1 + 1) 26 [.slice none 0 0, .slice none 0 0] (by simp)
  have hnle := hI.le
  have hmle := hJ.le
  have HFD := Lib.hid hJ.fit
  have HDL := Lib.hid hJ.len
  have HSL := Lib.hid hI.len
  have hnle2 := hI2.le
  have hmle2 := hJ2.le
  have HFK := Lib.hid hJ2.fit
  have HKL := Lib.hid hJ2.len
  have HTL := Lib.hid hI2.len
  clear hI hJ hI2 hJ2
  go_enter Try.func21, Try.ntmps21
  go_upto_region 1 with fail
  generalize ((w.alloc (.cells #[.slice A n c, .slice B m e] 26)).alloc (.cells #[.slice A2 n2 c2, .slice B2 m2 e2] 26)).alloc (.cells #[.slice none 0 0, .slice none 0 0] 26) = W at *
  have H := Lib.hid h1
  clear h1
  have a0 := H.out.cell 2 0 rfl rfl
  have a1 := H.out.cell 2 1 rfl rfl
  have b0 := H.out.cell 1 0 rfl rfl
  have b1 := H.out.cell 1 1 rfl rfl
  have C1 := refTensor_any (ten_mk (H.out.oldInts 3 rfl) hnc (H.out.oldInts 4 rfl) hme)
  go_wp2_with fail
  cases hr : tenRight s d with
  | false =>
    rw [hr] at C1
    refine C1.mono ?_; rintro e3 w3 ⟨rfl, hb3⟩
    replace H := Lib.hid (H.out.below hb3)
    have HX := Lib.hid (dotR_right (s := s) (d := d) (t := t) (k := k) (n := n0) (by rw [hr]; rfl))
    have r0 := H.out.cell 0 0 rfl rfl
    have r1 := H.out.cell 0 1 rfl rfl
    have fr0 := H.out.frozenBox 0 0 rfl
    have fr1 := H.out.frozenBox 0 1 rfl
    clear hb3 hr C1 a0 a1 b0 b1
    go_wp2
    rw [HX.out]
    exact sep_ret2 ((H.out.setBox 0 0 (.slice none 0 0) rfl).setBox 0 1 (.slice none 0 0) rfl) 0 rfl (z := .int .i64 13) Try.results21 rfl rfl rfl ⟨⟨_, rfl, _, _, 0, 0, rfl, OwnS.nil_ _ _ _, OwnS.nil_ _ _ _⟩, ((H.out.setBox 0 0 (.slice none 0 0) rfl).setBox 0 1 (.slice none 0 0) rfl).base⟩
  | true =>
    rw [hr] at C1
    refine C1.mono ?_; rintro e3 w3 ⟨rfl, hb3⟩
    replace H := Lib.hid (H.out.below hb3)
    have HRT := Lib.hid hr
    clear hb3 hr C1 a0 a1 b0 b1
    have a0 := H.out.cell 2 0 rfl rfl
    have a1 := H.out.cell 2 1 rfl rfl
    have b0 := H.out.cell 1 0 rfl rfl
    have b1 := H.out.cell 1 1 rfl rfl
    have C2 := refTensor_any (ten_mk (H.out.oldInts 5 rfl) hnc2 (H.out.oldInts 6 rfl) hme2)
    go_wp2_with fail
    cases hr2 : tenRight t k with
    | false =>
      rw [hr2] at C2
      refine C2.mono ?_; rintro e4 w4 ⟨rfl, hb4⟩
      replace H := Lib.hid (H.out.below hb4)
      have HX := Lib.hid (dotR_right (s := s) (d := d) (t := t) (k := k) (n := n0) (by rw [HRT.out, hr2]; rfl))
      have r0 := H.out.cell 0 0 rfl rfl
      have r1 := H.out.cell 0 1 rfl rfl
      have fr0 := H.out.frozenBox 0 0 rfl
      have fr1 := H.out.frozenBox 0 1 rfl
      clear hb4 hr2 C2 a0 a1 b0 b1
      go_wp2
      rw [HX.out]
      exact sep_ret2 ((H.out.setBox 0 0 (.slice none 0 0) rfl).setBox 0 1 (.slice none 0 0) rfl) 0 rfl (z := .int .i64 13) Try.results21 rfl rfl rfl ⟨⟨_, rfl, _, _, 0, 0, rfl, OwnS.nil_ _ _ _, OwnS.nil_ _ _ _⟩, ((H.out.setBox 0 0 (.slice none 0 0) rfl).setBox 0 1 (.slice none 0 0) rfl).base⟩
    | true =>
      rw [hr2] at C2
      refine C2.mono ?_; rintro e4 w4 ⟨rfl, hb4⟩
      replace H := Lib.hid (H.out.below hb4)
      have HRT2 := Lib.hid hr2
      clear hb4 hr2 C2 a0 a1 b0 b1
      have hn4 : n ≤ 4 := by have := (right_len HRT.out).1; have := HSL.out; omega
      have hn42 : n2 ≤ 4 := by have := (right_len HRT2.out).1; have := HTL.out; omega
      have a0 := H.out.cell 2 0 rfl rfl
      have a1 := H.out.cell 2 1 rfl rfl
      have b0 := H.out.cell 1 0 rfl rfl
      have b1 := H.out.cell 1 1 rfl rfl
      have C3 := refDotShape_any (ca := c) (cb := c2) n0 (H.out.oldInts 3 rfl) (H.out.oldInts 5 rfl) hnc hnc2
      have HBOTH := Lib.hid (show (tenRight s d && tenRight t k) = true by rw [HRT.out, HRT2.out]; rfl)
      go_wp2_with fail
      refine C3.mono ?_; rintro e5 w5 ⟨⟨vz, nz, rfl, hO⟩, hb5⟩
      clear C3 a0 a1 b0 b1
      by_cases hz : (dsR s t n0).1 = 0
      · obtain ⟨nn, rfl, hok, hds⟩ := dsR_zero hz
        rw [hds] at hO ⊢
        replace hO : OwnS w5 w4.heap.size 3 vz nz (dotS s t nn) := hO
        have HOK := Lib.hid hok
        clear hz hds hok
        obtain ⟨Z, hZ⟩ : ∃ Z, dotS s t nn = Z := ⟨_, rfl⟩
        rw [hZ] at hO
        have HZ := Lib.hid hZ
        clear hZ
        obtain ⟨Az, cz, rfl, hcz, _, _⟩ := hO.form
        have HZL := Lib.hid hO.len
        replace H := Lib.hid (H.out.addOwn hb5 hO)
        clear hO hb5
        have HRZ := Lib.hid (show Sh.right Z = true by rw [← HZ.out]; exact HOK.out.rs)
        have hnz4 : nz ≤ 4 := by have := (Sh.right_iff.1 HRZ.out).1; have := HZL.out; omega
        have hnn : nn < n := by have := HOK.out.la; have := HSL.out; omega
        have hnn2 : nn < n2 := by have := HOK.out.lb; have := HTL.out; omega
        go_wp2_with fail
        refine (refFill_any 0 ((H.out.ownInts 0 rfl).2.2) (by omega) ⟨by omega, by omega⟩).mono ?_; rintro e4 w4 ⟨⟨u, rfl, hu⟩, hb4⟩
        obtain ⟨S1, ns, sc, D1, N, dc, rfl, hs1, hd1, hsc, hdc, hNle, h5⟩ := H.out.addTen hb4 hu
        rw [List.length_replicate] at hd1
        rw [hd1] at h5
        have HN := Lib.hid hd1
        have h6 := h5.allocBox w4.heap.size 26 [.slice S1 ns sc, .slice D1 N dc] rfl
        clear hu hb4 h5 hd1 hs1
        go_upto_region 7 with fail
        generalize w4.alloc (.cells #[.slice S1 ns sc, .slice D1 N dc] 26) = w5 at *
        generalize w4.heap.size = gt at *
        replace H := Lib.hid h6
        clear h6
        obtain ⟨tgt, htg⟩ : ∃ x, dotD s d t k nn = x := ⟨_, rfl⟩
        have HTG := Lib.hid (show tgt.length = N by rw [← htg, dotD_length, HZ.out]; exact HN.out)
        have HQ := Lib.hid htg
        clear htg
        obtain ⟨pa, y, hpA, _, hy, hcy, hfy⟩ := (H.out.oldInts 9 rfl).at_ (k := nn) hnn2
        subst hpA
        have hyb := (Sh.right_iff.1 (right_of HRT2.out)).2.1 y (List.mem_of_getElem? hy)
        obtain ⟨M, rfl⟩ := Int.eq_ofNat_of_zero_le hyb.1
        have HM := Lib.hid (show dotM t nn = M by rw [dotM, List.getD_eq_getElem?_getD, hy]; rfl)
        have HY := Lib.hid hy
        clear hcy hfy hy
        have HAT := Lib.hid (show ∀ i : Nat, i < N → tgt[i]? = some (dotV s d t k nn i M) from fun i hi => by rw [← HQ.out, dotD, HZ.out, gen_at (by have := HN.out; omega), HM.out])
        obtain ⟨kk, hK⟩ : ∃ kk : Nat, n = kk + 1 := ⟨n - 1, by omega⟩
        have hw1 : IntKind.i64.wrap ((n : Int) - 1) = (kk : Int) := by rw [show (n : Int) - 1 = (kk : Int) by omega]; exact IntWalk.i64_in _ ⟨by omega, by omega⟩
        have HK := Lib.hid hK
        clear hK
        have a0 := H.out.cell 6 0 rfl rfl
        have a1 := H.out.cell 6 1 rfl rfl
        have o0 := H.out.cell 0 0 rfl rfl
        have o1 := H.out.cell 0 1 rfl rfl
        go_wp2_with fail
        clear a0 a1 o0 o1 hw1
        go_loopw [48] (fun kv wr => ∃ i : Nat, kv = .int .i64 i ∧ i ≤ N ∧ Sep w wr [.box gt 26 [.slice S1 ns sc, .slice D1 N dc], .own 3 (.slice S1 ns sc) ns Z, .own 2 (.slice D1 N dc) N (mix tgt (List.replicate N 0) i), .own 3 (.slice Az nz cz) nz Z, .box (w.heap.size + 1 + 1) 26 [.slice none 0 0, .slice none 0 0], .box (w.heap.size + 1) 26 [.slice (some pa) n2 c2, .slice B2 m2 e2], .box w.heap.size 26 [.slice A n c, .slice B m e], .ints A n s, .ints B m d, .ints (some pa) n2 t, .ints B2 m2 k]) (fun kv _ => N - (intOf kv).toNat)
        case atStart => exact ⟨0, rfl, by omega, by rw [mix_zero]; exact H.out⟩
        case round =>
          clear H
          obtain ⟨i, rfl, hi, hS⟩ := hrel
          have H := Lib.hid hS
          clear hS
          by_cases hli : i < N
          · have hiz : (i : Int) < Sh.size Z := by have := HN.out; omega
            have hd3 : decide (i < N) = true := by simpa using hli
            obtain ⟨w9, rfl⟩ : ∃ w9 : World, w9 = wr := ⟨_, rfl⟩
            go_wp2_with fail
            refine (refPlace_own i ((H.out.ownInts 3 rfl).2.2) ⟨by omega, by omega⟩).mono ?_; rintro e7 w7 ⟨⟨v7, n7, rfl, hO⟩, hb7⟩
            obtain ⟨A7, c7, rfl, hc7, _, _⟩ := hO.form
            have hp7 : nz = n7 := by have := hO.len; have h2 := (placeOf_of hiz).2.1; have := HZL.out; omega
            subst hp7
            have HNZ := Lib.hid (show nz = n - 1 + (n2 - (nn + 1)) by have h3 := HZL.out; rw [← HZ.out, dotS, List.length_append, List.length_take, List.length_drop] at h3; have := HSL.out; have := HTL.out; omega)
            obtain ⟨P, hP⟩ : ∃ P, Sh.placeOf Z i = P := ⟨_, rfl⟩
            rw [hP] at hO
            have HP := Lib.hid hP
            replace H := Lib.hid (H.out.addOwn hb7 hO)
            clear hO hb7 hP
            have b0 := H.out.cell 6 0 rfl rfl
            have b1 := H.out.cell 6 1 rfl rfl
            go_wp2_with fail
            clear b0 b1
            go_loopw [14] (fun jv wr => ∃ J : Nat, jv = .int .i64 J ∧ J ≤ M ∧ Sep w wr [.own 3 (.slice A7 nz c7) nz P, .box gt 26 [.slice S1 ns sc, .slice D1 N dc], .own 3 (.slice S1 ns sc) ns Z, .own 2 (.slice D1 N dc) N ((mix tgt (List.replicate N 0) i).set i (dotV s d t k nn i J)), .own 3 (.slice Az nz cz) nz Z, .box (w.heap.size + 1 + 1) 26 [.slice none 0 0, .slice none 0 0], .box (w.heap.size + 1) 26 [.slice (some pa) n2 c2, .slice B2 m2 e2], .box w.heap.size 26 [.slice A n c, .slice B m e], .ints A n s, .ints B m d, .ints (some pa) n2 t, .ints B2 m2 k]) (fun jv _ => M - (intOf jv).toNat)
            case atStart => exact ⟨0, rfl, by omega, by rw [show dotV s d t k nn i 0 = 0 from rfl, set_same_ (mix_rep HTG.out hli)]; exact H.out⟩
            case round =>
              clear H
              obtain ⟨J, rfl, hJ, hS⟩ := hrel
              have H := Lib.hid hS
              clear hS
              have b0 := H.out.cell 6 0 rfl rfl
              have b1 := H.out.cell 6 1 rfl rfl
              have hcy := (H.out.oldInts 10 rfl).get HY.out
              by_cases hlj : J < M
              · have hKz : kk ≤ nz := by have := HK.out; have := HNZ.out; omega
                have hnz2 : nn ≤ nz := by have := HK.out; have := HNZ.out; omega
                go_upto_region 15 with fail
                have ht1 := run_takeO (H.out.ownS 0 rfl) hKz
                have HI1 := Lib.hid ((H.out.ownInts 0 rfl).2.2.take hKz)
                have G0 := Lib.hid (H.out.empty 3)
                clear b0 b1 hcy
                go_wp2_with (at_builtin; refine wpList_appends_sep rfl (.tmp 63) (.tmp 66) 22 3 rfl Try.underlying22 Try.infoInt G0.out 0 rfl rfl A7 kk c7 (P.take kk) rfl ((G0.out.ownInts 1 rfl).2.2.take hKz) ?c1 ?_)
                case c1 => omega
                intro v1 w1 h1
                have G1 := Lib.hid h1
                clear h1
                go_wp2_with (at_builtin; refine wpList_append_sep rfl (.tmp 67) (.tmp 69) 22 3 rfl Try.underlying22 Try.infoInt G1.out 0 rfl rfl (J : Int) ⟨by omega, by omega⟩ _ rfl ?c1 ?_)
                case c1 => omega
                intro v2 w2 h2
                rw [show kk + 1 = n from HK.out.symm] at h2
                replace h2 : Sep w w2 (_ :: _) := h2
                obtain ⟨X, hX⟩ : ∃ X, P.take kk ++ [(J : Int)] = X := ⟨_, rfl⟩
                rw [hX] at h2
                have HX := Lib.hid hX
                obtain ⟨Ax, cx, hv, _, _, _⟩ := (h2.ownS 0 rfl).form
                subst hv
                have G2 := Lib.hid h2
                clear h2 hX H G0 G1 ht1 HI1
                go_upto_region 16 with fail
                go_cut [16] (fun u wx => ∃ (Ay : Option Addr) (cy : Nat), u = .slice Ay n2 cy ∧ Sep w wx [.own 3 (.slice Ay n2 cy) n2 (P.take nn ++ [(J : Int)] ++ P.drop kk), .own 3 (.slice Ax n cx) n X, .own 3 (.slice A7 nz c7) nz P, .box gt 26 [.slice S1 ns sc, .slice D1 N dc], .own 3 (.slice S1 ns sc) ns Z, .own 2 (.slice D1 N dc) N ((mix tgt (List.replicate N 0) i).set i (dotV s d t k nn i J)), .own 3 (.slice Az nz cz) nz Z, .box (w.heap.size + 1 + 1) 26 [.slice none 0 0, .slice none 0 0], .box (w.heap.size + 1) 26 [.slice (some pa) n2 c2, .slice B2 m2 e2], .box w.heap.size 26 [.slice A n c, .slice B m e], .ints A n s, .ints B m d, .ints (some pa) n2 t, .ints B2 m2 k])
                case first =>
                  have ht2 := run_takeO (G2.out.ownS 1 rfl) hnz2
                  have hd8 := run_dropO (G2.out.ownS 1 rfl) hKz
                  have hc78 := (G2.out.ownInts 1 rfl).2.1
                  obtain ⟨A8, hA8⟩ : ∃ A8, dropA A7 c7 kk = A8 := ⟨_, rfl⟩
                  rw [hA8] at hd8
                  have HA8 := Lib.hid hA8
                  clear hA8
                  have H0 := Lib.hid G2.out.drew
                  have HCT := Lib.hid (show 0 + nn + 1 + (nz - kk) = n2 by have := HK.out; have := HNZ.out; omega)
                  refine wp_region_held_drew (S := (fun _ => True)) (by kernel_rfl) ?_ (fun hHeld => ?_)
                  · trivial
                  first | (refine takeU (i := 1) (oi := { dst := some 72, op := Op.move (Operand.tmp 13), type := 22, pos := "ref.go:347", after := #[], guard := none }) rfl (by kernel_rfl) (by kernel_rfl) (by kernel_rfl) (fun _ _ _ h => h) ?_ hHeld ?_; (focus rfl)) | (refine takeW (i := 1) (oi := { dst := some 72, op := Op.move (Operand.tmp 13), type := 22, pos := "ref.go:347", after := #[], guard := none }) ?_ rfl (by kernel_rfl) (by kernel_rfl) (by kernel_rfl) (fun _ _ _ h => h) ?_ ?_ hHeld ?_; rotate_left; (focus rfl); (focus (intro wq hSq; obtain sq0 := hSq; (first | (go_simp; done) | (go_simp; with_reducible rfl)))))
                  try simp only [Act.put, List.setIfInBounds_toArray, List.set_cons_zero, List.set_cons_succ]
                  first | (refine takeU (i := 2) (oi := { dst := some 73, op := Op.move (Operand.tmp 2), type := 3, pos := "ref.go:347", after := #[], guard := none }) rfl (by kernel_rfl) (by kernel_rfl) (by kernel_rfl) (fun _ _ _ h => h) ?_ hHeld ?_; (focus rfl)) | (refine takeW (i := 2) (oi := { dst := some 73, op := Op.move (Operand.tmp 2), type := 3, pos := "ref.go:347", after := #[], guard := none }) ?_ rfl (by kernel_rfl) (by kernel_rfl) (by kernel_rfl) (fun _ _ _ h => h) ?_ ?_ hHeld ?_; rotate_left; (focus rfl); (focus (intro wq hSq; obtain sq0 := hSq; (first | (go_simp; done) | (go_simp; with_reducible rfl)))))
                  try simp only [Act.put, List.setIfInBounds_toArray, List.set_cons_zero, List.set_cons_succ]
                  first | (refine takeU (i := 3) (oi := { dst := some 74, op := Op.slice 22 (Operand.tmp 72) none (some (Operand.tmp 73)) none, type := 22, pos := "ref.go:347", after := #[{ on := 1, ground := Ground.data }, { on := 2, ground := Ground.data }], guard := none }) rfl (by kernel_rfl) (by kernel_rfl) (by kernel_rfl) (fun _ _ _ h => h) ?_ hHeld ?_; (focus rfl)) | (refine takeW (i := 3) (oi := { dst := some 74, op := Op.slice 22 (Operand.tmp 72) none (some (Operand.tmp 73)) none, type := 22, pos := "ref.go:347", after := #[{ on := 1, ground := Ground.data }, { on := 2, ground := Ground.data }], guard := none }) ?_ rfl (by kernel_rfl) (by kernel_rfl) (by kernel_rfl) (fun _ _ _ h => h) ?_ ?_ hHeld ?_; rotate_left; (focus rfl); (focus (intro wq hSq; obtain sq0 := hSq; (first | (go_simp; done) | (go_simp; with_reducible rfl)))))
                  try simp only [Act.put, List.setIfInBounds_toArray, List.set_cons_zero, List.set_cons_succ]
                  first | (refine takeU (i := 5) (oi := { dst := some 76, op := Op.move (Operand.tmp 14), type := 3, pos := "ref.go:347", after := #[], guard := none }) rfl (by kernel_rfl) (by kernel_rfl) (by kernel_rfl) (fun _ _ _ h => h) ?_ hHeld ?_; (focus rfl)) | (refine takeW (i := 5) (oi := { dst := some 76, op := Op.move (Operand.tmp 14), type := 3, pos := "ref.go:347", after := #[], guard := none }) ?_ rfl (by kernel_rfl) (by kernel_rfl) (by kernel_rfl) (fun _ _ _ h => h) ?_ ?_ hHeld ?_; rotate_left; (focus rfl); (focus (intro wq hSq; obtain sq0 := hSq; (first | (go_simp; done) | (go_simp; with_reducible rfl)))))
                  try simp only [Act.put, List.setIfInBounds_toArray, List.set_cons_zero, List.set_cons_succ]
                  first | (refine takeU (i := 8) (oi := { dst := some 79, op := Op.move (Operand.tmp 13), type := 22, pos := "ref.go:347", after := #[], guard := none }) rfl (by kernel_rfl) (by kernel_rfl) (by kernel_rfl) (fun _ _ _ h => h) ?_ hHeld ?_; (focus rfl)) | (refine takeW (i := 8) (oi := { dst := some 79, op := Op.move (Operand.tmp 13), type := 22, pos := "ref.go:347", after := #[], guard := none }) ?_ rfl (by kernel_rfl) (by kernel_rfl) (by kernel_rfl) (fun _ _ _ h => h) ?_ ?_ hHeld ?_; rotate_left; (focus rfl); (focus (intro wq hSq; obtain sq0 := hSq; (first | (go_simp; done) | (go_simp; with_reducible rfl)))))
                  try simp only [Act.put, List.setIfInBounds_toArray, List.set_cons_zero, List.set_cons_succ]
                  first | (refine takeU (i := 9) (oi := { dst := some 80, op := Op.move (Operand.tmp 11), type := 3, pos := "ref.go:347", after := #[], guard := none }) rfl (by kernel_rfl) (by kernel_rfl) (by kernel_rfl) (fun _ _ _ h => h) ?_ hHeld ?_; (focus rfl)) | (refine takeW (i := 9) (oi := { dst := some 80, op := Op.move (Operand.tmp 11), type := 3, pos := "ref.go:347", after := #[], guard := none }) ?_ rfl (by kernel_rfl) (by kernel_rfl) (by kernel_rfl) (fun _ _ _ h => h) ?_ ?_ hHeld ?_; rotate_left; (focus rfl); (focus (intro wq hSq; obtain sq0 := hSq; (first | (go_simp; done) | (go_simp; with_reducible rfl)))))
                  try simp only [Act.put, List.setIfInBounds_toArray, List.set_cons_zero, List.set_cons_succ]
                  first | (refine takeU (i := 10) (oi := { dst := some 81, op := Op.slice 22 (Operand.tmp 79) (some (Operand.tmp 80)) none none, type := 22, pos := "ref.go:347", after := #[{ on := 8, ground := Ground.data }, { on := 9, ground := Ground.data }], guard := none }) rfl (by kernel_rfl) (by kernel_rfl) (by kernel_rfl) (fun _ _ _ h => h) ?_ hHeld ?_; (focus rfl)) | (refine takeW (i := 10) (oi := { dst := some 81, op := Op.slice 22 (Operand.tmp 79) (some (Operand.tmp 80)) none none, type := 22, pos := "ref.go:347", after := #[{ on := 8, ground := Ground.data }, { on := 9, ground := Ground.data }], guard := none }) ?_ rfl (by kernel_rfl) (by kernel_rfl) (by kernel_rfl) (fun _ _ _ h => h) ?_ ?_ hHeld ?_; rotate_left; (focus rfl); (focus (intro wq hSq; obtain sq0 := hSq; (first | (go_simp; done) | (go_simp; with_reducible rfl)))))
                  try simp only [Act.put, List.setIfInBounds_toArray, List.set_cons_zero, List.set_cons_succ]
                  refine wpAnyH_ready (rs := [0, 6]) (by kernel_rfl) (by simp) ?_
                  refine (AllReadyH.cons (o := { dst := some 71, op := Op.buildSlice 22 0 #[], type := 22, pos := "ref.go:347", after := #[], guard := none }) rfl (fun K hK => ?_) (AllReadyH.cons (o := { dst := some 77, op := Op.buildSlice 22 1 #[(0, Operand.tmp 76)], type := 22, pos := "ref.go:347", after := #[{ on := 5, ground := Ground.data }], guard := none }) rfl (fun K hK => ?_) AllReadyH.nil))
                  · go_simp
                    try go_wp2_with fail
                    refine hK.out _ _ ?_ (fun hHeld2 => ?_)
                    · first | assumption | (trivial)
                    clear hK K hHeld
                    have hHeld := hHeld2; clear hHeld2
                    try simp only [Act.put, List.setIfInBounds_toArray, List.set_cons_zero, List.set_cons_succ]
                    refine wpAnyH_ready (rs := [4, 6]) (by kernel_rfl) (by simp) ?_
                    refine (AllReadyH.cons (o := { dst := some 75, op := Op.call { callee := Callee.builtin Builtin.append, args := #[Operand.tmp 71, Operand.tmp 74], argTypes := #[22, 22] }, type := 22, pos := "ref.go:347", after := #[{ on := 0, ground := Ground.data }, { on := 3, ground := Ground.data }], guard := none }) rfl (fun K hK => ?_) (AllReadyH.cons (o := { dst := some 77, op := Op.buildSlice 22 1 #[(0, Operand.tmp 76)], type := 22, pos := "ref.go:347", after := #[{ on := 5, ground := Ground.data }], guard := none }) rfl (fun K hK => ?_) AllReadyH.nil))
                    · (have Ge := Lib.hid (H0.out.empty 3); refine step_appends_sep rfl (.tmp 71) (.tmp 74) 22 3 rfl Try.underlying22 Try.infoInt Ge.out 0 rfl rfl A7 nn c7 _ rfl ((Ge.out.ownInts 2 rfl).2.2.take hnz2) ?_ ?_; (focus omega); intro y1 z1 h5; have G4 := Lib.hid h5; clear h5)
                      refine hK.out _ _ ?_ (fun hHeld2 => ?_)
                      · first | assumption | (trivial)
                      clear hK K hHeld
                      have hHeld := hHeld2; clear hHeld2
                      try simp only [Act.put, List.setIfInBounds_toArray, List.set_cons_zero, List.set_cons_succ]
                      refine wpAnyH_ready (rs := [6]) (by kernel_rfl) (by simp) ?_
                      refine (AllReadyH.cons (o := { dst := some 77, op := Op.buildSlice 22 1 #[(0, Operand.tmp 76)], type := 22, pos := "ref.go:347", after := #[{ on := 5, ground := Ground.data }], guard := none }) rfl (fun K hK => ?_) AllReadyH.nil)
                      go_simp
                      try go_wp2_with fail
                      refine hK.out _ _ ?_ (fun hHeld2 => ?_)
                      · first | assumption | (trivial)
                      clear hK K hHeld
                      have hHeld := hHeld2; clear hHeld2
                      try simp only [Act.put, List.setIfInBounds_toArray, List.set_cons_zero, List.set_cons_succ]
                      refine wpAnyH_ready (rs := [7]) (by kernel_rfl) (by simp) ?_
                      refine (AllReadyH.cons (o := { dst := some 78, op := Op.call { callee := Callee.builtin Builtin.append, args := #[Operand.tmp 75, Operand.tmp 77], argTypes := #[22, 22] }, type := 22, pos := "ref.go:347", after := #[{ on := 4, ground := Ground.data }, { on := 6, ground := Ground.data }, { on := 4, ground := Ground.chain }], guard := none }) rfl (fun K hK => ?_) AllReadyH.nil)
                      (refine step_append_sep rfl (.tmp 75) (.tmp 77) 22 3 rfl Try.underlying22 Try.infoInt G4.out 0 rfl rfl (J : Int) ⟨by omega, by omega⟩ _ rfl ?_ ?_; (focus omega); intro y2 z2 h5; have G5 := Lib.hid h5; clear h5)
                      refine hK.out _ _ ?_ (fun hHeld2 => ?_)
                      · first | assumption | (trivial)
                      clear hK K hHeld
                      have hHeld := hHeld2; clear hHeld2
                      try simp only [Act.put, List.setIfInBounds_toArray, List.set_cons_zero, List.set_cons_succ]
                      refine wpAnyH_ready (rs := [11]) (by kernel_rfl) (by simp) ?_
                      refine (AllReadyH.cons (o := { dst := some 82, op := Op.call { callee := Callee.builtin Builtin.append, args := #[Operand.tmp 78, Operand.tmp 81], argTypes := #[22, 22] }, type := 22, pos := "ref.go:347", after := #[{ on := 7, ground := Ground.data }, { on := 10, ground := Ground.data }, { on := 7, ground := Ground.chain }], guard := none }) rfl (fun K hK => ?_) AllReadyH.nil)
                      (refine step_appends_sep rfl (.tmp 78) (.tmp 81) 22 3 rfl Try.underlying22 Try.infoInt G5.out 0 rfl rfl A8 (nz - kk) (c7 - kk) _ rfl (HA8.out ▸ (G5.out.ownInts 2 rfl).2.2.dropA hKz hc78) ?_ ?_; (focus omega); intro y3 z3 h5; have G6 := Lib.hid h5; clear h5)
                      refine hK.out _ _ ?_ (fun hHeld2 => ?_)
                      · first | assumption | (trivial)
                      clear hK K hHeld
                      have hHeld := hHeld2; clear hHeld2
                      try simp only [Act.put, List.setIfInBounds_toArray, List.set_cons_zero, List.set_cons_succ]
                      first | (refine takeU (i := 12) (oi := { dst := some 16, op := Op.assign (Operand.tmp 82), type := 22, pos := "ref.go:347", after := #[{ on := 11, ground := Ground.data }, { on := 11, ground := Ground.chain }, { on := 0, ground := Ground.phase }, { on := 1, ground := Ground.phase }, { on := 2, ground := Ground.phase }, { on := 3, ground := Ground.phase }, { on := 4, ground := Ground.phase }, { on := 5, ground := Ground.phase }, { on := 6, ground := Ground.phase }, { on := 7, ground := Ground.phase }, { on := 8, ground := Ground.phase }, { on := 9, ground := Ground.phase }, { on := 10, ground := Ground.phase }, { on := 11, ground := Ground.phase }], guard := none }) rfl (by kernel_rfl) (by kernel_rfl) (by kernel_rfl) (fun _ _ _ h => h) ?_ hHeld ?_; (focus rfl)) | (refine takeW (i := 12) (oi := { dst := some 16, op := Op.assign (Operand.tmp 82), type := 22, pos := "ref.go:347", after := #[{ on := 11, ground := Ground.data }, { on := 11, ground := Ground.chain }, { on := 0, ground := Ground.phase }, { on := 1, ground := Ground.phase }, { on := 2, ground := Ground.phase }, { on := 3, ground := Ground.phase }, { on := 4, ground := Ground.phase }, { on := 5, ground := Ground.phase }, { on := 6, ground := Ground.phase }, { on := 7, ground := Ground.phase }, { on := 8, ground := Ground.phase }, { on := 9, ground := Ground.phase }, { on := 10, ground := Ground.phase }, { on := 11, ground := Ground.phase }], guard := none }) ?_ rfl (by kernel_rfl) (by kernel_rfl) (by kernel_rfl) (fun _ _ _ h => h) ?_ ?_ hHeld ?_; rotate_left; (focus rfl); (focus (intro wq hSq; obtain sq0 := hSq; (first | (go_simp; done) | (go_simp; with_reducible rfl)))))
                      try simp only [Act.put, List.setIfInBounds_toArray, List.set_cons_zero, List.set_cons_succ]
                      refine wpAnyH_done (by kernel_rfl) ?_ _
                      go_wp2_with fail
                      obtain ⟨Ay, cy, hv, _, _, _⟩ := (G6.out.ownS 0 rfl).form
                      subst hv
                      go_meet
                      exact ⟨Ay, cy, by rw [HCT.out], G6.out.recast (by first | (simp only [HCT.out, List.nil_append]; done) | simp only [List.set_cons_zero, HCT.out, List.nil_append])⟩
                    · go_simp
                      try go_wp2_with fail
                      refine hK.out _ _ ?_ (fun hHeld2 => ?_)
                      · first | assumption | (trivial)
                      clear hK K hHeld
                      have hHeld := hHeld2; clear hHeld2
                      try simp only [Act.put, List.setIfInBounds_toArray, List.set_cons_zero, List.set_cons_succ]
                      refine wpAnyH_ready (rs := [4]) (by kernel_rfl) (by simp) ?_
                      refine (AllReadyH.cons (o := { dst := some 75, op := Op.call { callee := Callee.builtin Builtin.append, args := #[Operand.tmp 71, Operand.tmp 74], argTypes := #[22, 22] }, type := 22, pos := "ref.go:347", after := #[{ on := 0, ground := Ground.data }, { on := 3, ground := Ground.data }], guard := none }) rfl (fun K hK => ?_) AllReadyH.nil)
                      (have Ge := Lib.hid ((H0.out.empty 3).lit 3 #[.int .i64 (J : Int)] [(J : Int)] 1 (w2.heap.size + 1) (by rw [size_alloc]; rfl) rfl (by simp [litOk]; omega)); refine step_appends_sep rfl (.tmp 71) (.tmp 74) 22 3 rfl Try.underlying22 Try.infoInt Ge.out 1 rfl rfl A7 nn c7 _ rfl ((Ge.out.ownInts 3 rfl).2.2.take hnz2) ?_ ?_; (focus omega); intro y1 z1 h5; have G4 := Lib.hid h5; clear h5)
                      refine hK.out _ _ ?_ (fun hHeld2 => ?_)
                      · first | assumption | (trivial)
                      clear hK K hHeld
                      have hHeld := hHeld2; clear hHeld2
                      try simp only [Act.put, List.setIfInBounds_toArray, List.set_cons_zero, List.set_cons_succ]
                      refine wpAnyH_ready (rs := [7]) (by kernel_rfl) (by simp) ?_
                      refine (AllReadyH.cons (o := { dst := some 78, op := Op.call { callee := Callee.builtin Builtin.append, args := #[Operand.tmp 75, Operand.tmp 77], argTypes := #[22, 22] }, type := 22, pos := "ref.go:347", after := #[{ on := 4, ground := Ground.data }, { on := 6, ground := Ground.data }, { on := 4, ground := Ground.chain }], guard := none }) rfl (fun K hK => ?_) AllReadyH.nil)
                      (refine step_appends_sep rfl (.tmp 75) (.tmp 77) 22 3 rfl Try.underlying22 Try.infoInt G4.out 1 rfl rfl _ 1 1 [(J : Int)] rfl ((G4.out.ownInts 0 rfl).2.2) ?_ ?_; (focus omega); intro y2 z2 h5; have G5 := Lib.hid h5; clear h5)
                      refine hK.out _ _ ?_ (fun hHeld2 => ?_)
                      · first | assumption | (trivial)
                      clear hK K hHeld
                      have hHeld := hHeld2; clear hHeld2
                      try simp only [Act.put, List.setIfInBounds_toArray, List.set_cons_zero, List.set_cons_succ]
                      refine wpAnyH_ready (rs := [11]) (by kernel_rfl) (by simp) ?_
                      refine (AllReadyH.cons (o := { dst := some 82, op := Op.call { callee := Callee.builtin Builtin.append, args := #[Operand.tmp 78, Operand.tmp 81], argTypes := #[22, 22] }, type := 22, pos := "ref.go:347", after := #[{ on := 7, ground := Ground.data }, { on := 10, ground := Ground.data }, { on := 7, ground := Ground.chain }], guard := none }) rfl (fun K hK => ?_) AllReadyH.nil)
                      (refine step_appends_sep rfl (.tmp 78) (.tmp 81) 22 3 rfl Try.underlying22 Try.infoInt G5.out 1 rfl rfl A8 (nz - kk) (c7 - kk) _ rfl (HA8.out ▸ (G5.out.ownInts 3 rfl).2.2.dropA hKz hc78) ?_ ?_; (focus omega); intro y3 z3 h5; have h6 := h5.sub (l' := .own 3 y3 (0 + nn + 1 + (nz - kk)) ([] ++ P.take nn ++ [(J : Int)] ++ P.drop kk) :: [.own 3 (.slice Ax n cx) n X, .own 3 (.slice A7 nz c7) nz P, .box gt 26 [.slice S1 ns sc, .slice D1 N dc], .own 3 (.slice S1 ns sc) ns Z, .own 2 (.slice D1 N dc) N ((mix tgt (List.replicate N 0) i).set i (dotV s d t k nn i J)), .own 3 (.slice Az nz cz) nz Z, .box (w.heap.size + 1 + 1) 26 [.slice none 0 0, .slice none 0 0], .box (w.heap.size + 1) 26 [.slice (some pa) n2 c2, .slice B2 m2 e2], .box w.heap.size 26 [.slice A n c, .slice B m e], .ints A n s, .ints B m d, .ints (some pa) n2 t, .ints B2 m2 k]) [1, 2, 3, 4, 5, 6, 7, 8, 9, 10, 11, 12, 13, 14] rfl (by decide); have G6 := Lib.hid h6; clear h5 h6)
                      refine hK.out _ _ ?_ (fun hHeld2 => ?_)
                      · first | assumption | (trivial)
                      clear hK K hHeld
                      have hHeld := hHeld2; clear hHeld2
                      try simp only [Act.put, List.setIfInBounds_toArray, List.set_cons_zero, List.set_cons_succ]
                      first | (refine takeU (i := 12) (oi := { dst := some 16, op := Op.assign (Operand.tmp 82), type := 22, pos := "ref.go:347", after := #[{ on := 11, ground := Ground.data }, { on := 11, ground := Ground.chain }, { on := 0, ground := Ground.phase }, { on := 1, ground := Ground.phase }, { on := 2, ground := Ground.phase }, { on := 3, ground := Ground.phase }, { on := 4, ground := Ground.phase }, { on := 5, ground := Ground.phase }, { on := 6, ground := Ground.phase }, { on := 7, ground := Ground.phase }, { on := 8, ground := Ground.phase }, { on := 9, ground := Ground.phase }, { on := 10, ground := Ground.phase }, { on := 11, ground := Ground.phase }], guard := none }) rfl (by kernel_rfl) (by kernel_rfl) (by kernel_rfl) (fun _ _ _ h => h) ?_ hHeld ?_; (focus rfl)) | (refine takeW (i := 12) (oi := { dst := some 16, op := Op.assign (Operand.tmp 82), type := 22, pos := "ref.go:347", after := #[{ on := 11, ground := Ground.data }, { on := 11, ground := Ground.chain }, { on := 0, ground := Ground.phase }, { on := 1, ground := Ground.phase }, { on := 2, ground := Ground.phase }, { on := 3, ground := Ground.phase }, { on := 4, ground := Ground.phase }, { on := 5, ground := Ground.phase }, { on := 6, ground := Ground.phase }, { on := 7, ground := Ground.phase }, { on := 8, ground := Ground.phase }, { on := 9, ground := Ground.phase }, { on := 10, ground := Ground.phase }, { on := 11, ground := Ground.phase }], guard := none }) ?_ rfl (by kernel_rfl) (by kernel_rfl) (by kernel_rfl) (fun _ _ _ h => h) ?_ ?_ hHeld ?_; rotate_left; (focus rfl); (focus (intro wq hSq; obtain sq0 := hSq; (first | (go_simp; done) | (go_simp; with_reducible rfl)))))
                      try simp only [Act.put, List.setIfInBounds_toArray, List.set_cons_zero, List.set_cons_succ]
                      refine wpAnyH_done (by kernel_rfl) ?_ _
                      go_wp2_with fail
                      obtain ⟨Ay, cy, hv, _, _, _⟩ := (G6.out.ownS 0 rfl).form
                      subst hv
                      go_meet
                      exact ⟨Ay, cy, by rw [HCT.out], G6.out.recast (by first | (simp only [HCT.out, List.nil_append]; done) | simp only [List.set_cons_zero, HCT.out, List.nil_append])⟩
                  · go_simp
                    try go_wp2_with fail
                    refine hK.out _ _ ?_ (fun hHeld2 => ?_)
                    · first | assumption | (trivial)
                    clear hK K hHeld
                    have hHeld := hHeld2; clear hHeld2
                    try simp only [Act.put, List.setIfInBounds_toArray, List.set_cons_zero, List.set_cons_succ]
                    refine wpAnyH_ready (rs := [0]) (by kernel_rfl) (by simp) ?_
                    refine (AllReadyH.cons (o := { dst := some 71, op := Op.buildSlice 22 0 #[], type := 22, pos := "ref.go:347", after := #[], guard := none }) rfl (fun K hK => ?_) AllReadyH.nil)
                    go_simp
                    try go_wp2_with fail
                    refine hK.out _ _ ?_ (fun hHeld2 => ?_)
                    · first | assumption | (trivial)
                    clear hK K hHeld
                    have hHeld := hHeld2; clear hHeld2
                    try simp only [Act.put, List.setIfInBounds_toArray, List.set_cons_zero, List.set_cons_succ]
                    refine wpAnyH_ready (rs := [4]) (by kernel_rfl) (by simp) ?_
                    refine (AllReadyH.cons (o := { dst := some 75, op := Op.call { callee := Callee.builtin Builtin.append, args := #[Operand.tmp 71, Operand.tmp 74], argTypes := #[22, 22] }, type := 22, pos := "ref.go:347", after := #[{ on := 0, ground := Ground.data }, { on := 3, ground := Ground.data }], guard := none }) rfl (fun K hK => ?_) AllReadyH.nil)
                    (have Ge := Lib.hid ((H0.out.lit 3 #[.int .i64 (J : Int)] [(J : Int)] 1 w2.heap.size rfl rfl (by simp [litOk]; omega)).emptyAt 3 (w2.heap.size + 1) (by rw [size_alloc]; rfl)); refine step_appends_sep rfl (.tmp 71) (.tmp 74) 22 3 rfl Try.underlying22 Try.infoInt Ge.out 0 rfl rfl A7 nn c7 _ rfl ((Ge.out.ownInts 3 rfl).2.2.take hnz2) ?_ ?_; (focus omega); intro y1 z1 h5; have G4 := Lib.hid h5; clear h5)
                    refine hK.out _ _ ?_ (fun hHeld2 => ?_)
                    · first | assumption | (trivial)
                    clear hK K hHeld
                    have hHeld := hHeld2; clear hHeld2
                    try simp only [Act.put, List.setIfInBounds_toArray, List.set_cons_zero, List.set_cons_succ]
                    refine wpAnyH_ready (rs := [7]) (by kernel_rfl) (by simp) ?_
                    refine (AllReadyH.cons (o := { dst := some 78, op := Op.call { callee := Callee.builtin Builtin.append, args := #[Operand.tmp 75, Operand.tmp 77], argTypes := #[22, 22] }, type := 22, pos := "ref.go:347", after := #[{ on := 4, ground := Ground.data }, { on := 6, ground := Ground.data }, { on := 4, ground := Ground.chain }], guard := none }) rfl (fun K hK => ?_) AllReadyH.nil)
                    (refine step_appends_sep rfl (.tmp 75) (.tmp 77) 22 3 rfl Try.underlying22 Try.infoInt G4.out 0 rfl rfl _ 1 1 [(J : Int)] rfl ((G4.out.ownInts 1 rfl).2.2) ?_ ?_; (focus omega); intro y2 z2 h5; have G5 := Lib.hid h5; clear h5)
                    refine hK.out _ _ ?_ (fun hHeld2 => ?_)
                    · first | assumption | (trivial)
                    clear hK K hHeld
                    have hHeld := hHeld2; clear hHeld2
                    try simp only [Act.put, List.setIfInBounds_toArray, List.set_cons_zero, List.set_cons_succ]
                    refine wpAnyH_ready (rs := [11]) (by kernel_rfl) (by simp) ?_
                    refine (AllReadyH.cons (o := { dst := some 82, op := Op.call { callee := Callee.builtin Builtin.append, args := #[Operand.tmp 78, Operand.tmp 81], argTypes := #[22, 22] }, type := 22, pos := "ref.go:347", after := #[{ on := 7, ground := Ground.data }, { on := 10, ground := Ground.data }, { on := 7, ground := Ground.chain }], guard := none }) rfl (fun K hK => ?_) AllReadyH.nil)
                    (refine step_appends_sep rfl (.tmp 78) (.tmp 81) 22 3 rfl Try.underlying22 Try.infoInt G5.out 0 rfl rfl A8 (nz - kk) (c7 - kk) _ rfl (HA8.out ▸ (G5.out.ownInts 3 rfl).2.2.dropA hKz hc78) ?_ ?_; (focus omega); intro y3 z3 h5; have h6 := h5.sub (l' := .own 3 y3 (0 + nn + 1 + (nz - kk)) ([] ++ P.take nn ++ [(J : Int)] ++ P.drop kk) :: [.own 3 (.slice Ax n cx) n X, .own 3 (.slice A7 nz c7) nz P, .box gt 26 [.slice S1 ns sc, .slice D1 N dc], .own 3 (.slice S1 ns sc) ns Z, .own 2 (.slice D1 N dc) N ((mix tgt (List.replicate N 0) i).set i (dotV s d t k nn i J)), .own 3 (.slice Az nz cz) nz Z, .box (w.heap.size + 1 + 1) 26 [.slice none 0 0, .slice none 0 0], .box (w.heap.size + 1) 26 [.slice (some pa) n2 c2, .slice B2 m2 e2], .box w.heap.size 26 [.slice A n c, .slice B m e], .ints A n s, .ints B m d, .ints (some pa) n2 t, .ints B2 m2 k]) [0, 2, 3, 4, 5, 6, 7, 8, 9, 10, 11, 12, 13, 14] rfl (by decide); have G6 := Lib.hid h6; clear h5 h6)
                    refine hK.out _ _ ?_ (fun hHeld2 => ?_)
                    · first | assumption | (trivial)
                    clear hK K hHeld
                    have hHeld := hHeld2; clear hHeld2
                    try simp only [Act.put, List.setIfInBounds_toArray, List.set_cons_zero, List.set_cons_succ]
                    first | (refine takeU (i := 12) (oi := { dst := some 16, op := Op.assign (Operand.tmp 82), type := 22, pos := "ref.go:347", after := #[{ on := 11, ground := Ground.data }, { on := 11, ground := Ground.chain }, { on := 0, ground := Ground.phase }, { on := 1, ground := Ground.phase }, { on := 2, ground := Ground.phase }, { on := 3, ground := Ground.phase }, { on := 4, ground := Ground.phase }, { on := 5, ground := Ground.phase }, { on := 6, ground := Ground.phase }, { on := 7, ground := Ground.phase }, { on := 8, ground := Ground.phase }, { on := 9, ground := Ground.phase }, { on := 10, ground := Ground.phase }, { on := 11, ground := Ground.phase }], guard := none }) rfl (by kernel_rfl) (by kernel_rfl) (by kernel_rfl) (fun _ _ _ h => h) ?_ hHeld ?_; (focus rfl)) | (refine takeW (i := 12) (oi := { dst := some 16, op := Op.assign (Operand.tmp 82), type := 22, pos := "ref.go:347", after := #[{ on := 11, ground := Ground.data }, { on := 11, ground := Ground.chain }, { on := 0, ground := Ground.phase }, { on := 1, ground := Ground.phase }, { on := 2, ground := Ground.phase }, { on := 3, ground := Ground.phase }, { on := 4, ground := Ground.phase }, { on := 5, ground := Ground.phase }, { on := 6, ground := Ground.phase }, { on := 7, ground := Ground.phase }, { on := 8, ground := Ground.phase }, { on := 9, ground := Ground.phase }, { on := 10, ground := Ground.phase }, { on := 11, ground := Ground.phase }], guard := none }) ?_ rfl (by kernel_rfl) (by kernel_rfl) (by kernel_rfl) (fun _ _ _ h => h) ?_ ?_ hHeld ?_; rotate_left; (focus rfl); (focus (intro wq hSq; obtain sq0 := hSq; (first | (go_simp; done) | (go_simp; with_reducible rfl)))))
                    try simp only [Act.put, List.setIfInBounds_toArray, List.set_cons_zero, List.set_cons_succ]
                    refine wpAnyH_done (by kernel_rfl) ?_ _
                    go_wp2_with fail
                    obtain ⟨Ay, cy, hv, _, _, _⟩ := (G6.out.ownS 0 rfl).form
                    subst hv
                    go_meet
                    exact ⟨Ay, cy, by rw [HCT.out], G6.out.recast (by first | (simp only [HCT.out, List.nil_append]; done) | simp only [List.set_cons_zero, HCT.out, List.nil_append])⟩
                case rest =>
                  obtain ⟨Ay, cy, rfl, hS⟩ := hcut
                  have H := Lib.hid hS
                  clear hS G2
                  have HSK := Lib.hid (show s.length - 1 = kk by have := HK.out; have := HSL.out; omega)
                  have hx := dot_row HOK.out (i := i) (j := J) (by rw [HZ.out]; exact hiz) (by rw [HM.out]; exact hlj)
                  have hy := dot_col HOK.out (i := i) (j := J) (by rw [HZ.out]; exact hiz) (by rw [HM.out]; exact hlj)
                  have hst := dotV_step (d := d) (k := k) HOK.out (i := i) (j := J) (by rw [HZ.out]; exact hiz) (by rw [HM.out]; exact hlj)
                  rw [HZ.out, HP.out, HSK.out] at hx hy hst
                  rw [HX.out] at hx hst
                  obtain ⟨Y, hY⟩ : ∃ Y, P.take nn ++ [(J : Int)] ++ P.drop kk = Y := ⟨_, rfl⟩
                  have hS := H.out
                  rw [hY] at hy hst hS
                  replace H := Lib.hid hS
                  clear hS hY
                  obtain ⟨hx1, hx2, _⟩ := hx
                  obtain ⟨hy1, hy2, _⟩ := hy
                  obtain ⟨gb, cb, hv, hO⟩ := (H.out.ownS 5 rfl).own (by omega)
                  injection hv with hv1 _ hv3
                  subst hv1
                  subst hv3
                  clear hO
                  obtain ⟨u, hu⟩ : ∃ u, num s d X = u := ⟨_, rfl⟩
                  obtain ⟨v, hv⟩ : ∃ v, num t k Y = v := ⟨_, rfl⟩
                  obtain ⟨V, hV⟩ : ∃ V, dotV s d t k nn i J = V := ⟨_, rfl⟩
                  rw [hu, hv, hV] at hst
                  have hS := H.out
                  rw [hV] at hS
                  replace H := Lib.hid hS
                  clear hS hV
                  have HST := Lib.hid (show ((mix tgt (List.replicate N 0) i).set i V).set i (wrap64 (V + wrap64 (u * v))) = (mix tgt (List.replicate N 0) i).set i (dotV s d t k nn i (J + 1)) by rw [List.set_set, hst])
                  have HZV := Lib.hid (show ((mix tgt (List.replicate N 0) i).set i V)[i]? = some V by rw [List.getElem?_set_self (by rw [mix_length (by rw [HTG.out, List.length_replicate]), List.length_replicate]; exact hli)])
                  have H0 := Lib.hid H.out.drew
                  clear hst
                  have CX := ref4Number_any (c := cx) (ten_mk (H0.out.oldInts 10 rfl) hnc (H0.out.oldInts 11 rfl) hme) (H0.out.ownInts 1 rfl).2.2 HRT.out hx1 hx2
                  rw [hu] at CX
                  have HV := Lib.hid hv
                  have HY12 := Lib.hid (And.intro hy1 hy2)
                  clear hu hv hx1 hx2 hy1 hy2
                  go_upto_region 17 with fail
                  have i0 := H0.out.cell 3 1 rfl rfl
                  have i1 := H0.out.cell 9 0 rfl rfl
                  have i2 := H0.out.cell 9 1 rfl rfl
                  have i3 := H0.out.cell 8 0 rfl rfl
                  have i4 := H0.out.cell 8 1 rfl rfl
                  refine wp_region_held_drew (S := (fun w' => w'.cell? ⟨gt, 1, none⟩ = some (.slice (some ⟨gb, 0, none⟩) N dc) ∧ w'.cell? ⟨w.heap.size, 0, none⟩ = some (.slice A n c) ∧ w'.cell? ⟨w.heap.size, 1, none⟩ = some (.slice B m e) ∧ w'.cell? ⟨w.heap.size + 1, 0, none⟩ = some (.slice (some pa) n2 c2) ∧ w'.cell? ⟨w.heap.size + 1, 1, none⟩ = some (.slice B2 m2 e2))) (by kernel_rfl) ?_ (fun hHeld => ?_)
                  · exact ⟨i0, i1, i2, i3, i4⟩
                  first | (refine takeU (i := 0) (oi := { dst := some 83, op := Op.fieldAddr 26 (Operand.tmp 10) 1, type := 0, pos := "ref.go:348", after := #[], guard := none }) rfl (by kernel_rfl) (by kernel_rfl) (by kernel_rfl) (fun _ _ _ h => h) ?_ hHeld ?_; (focus rfl)) | (refine takeW (i := 0) (oi := { dst := some 83, op := Op.fieldAddr 26 (Operand.tmp 10) 1, type := 0, pos := "ref.go:348", after := #[], guard := none }) ?_ rfl (by kernel_rfl) (by kernel_rfl) (by kernel_rfl) (fun _ _ _ h => h) ?_ ?_ hHeld ?_; rotate_left; (focus rfl); (focus (intro wq hSq; obtain ⟨s0, s1, s2, s3, s4⟩ := hSq; (first | (go_simp; done) | (go_simp; with_reducible rfl)))))
                  try simp only [Act.put, List.setIfInBounds_toArray, List.set_cons_zero, List.set_cons_succ]
                  first | (refine takeU (i := 1) (oi := { dst := some 84, op := Op.load 24 (Operand.tmp 83), type := 24, pos := "ref.go:348", after := #[{ on := 0, ground := Ground.data }], guard := none }) rfl (by kernel_rfl) (by kernel_rfl) (by kernel_rfl) (fun _ _ _ h => h) ?_ hHeld ?_; (focus rfl)) | (refine takeW (i := 1) (oi := { dst := some 84, op := Op.load 24 (Operand.tmp 83), type := 24, pos := "ref.go:348", after := #[{ on := 0, ground := Ground.data }], guard := none }) ?_ rfl (by kernel_rfl) (by kernel_rfl) (by kernel_rfl) (fun _ _ _ h => h) ?_ ?_ hHeld ?_; rotate_left; (focus rfl); (focus (intro wq hSq; obtain ⟨s0, s1, s2, s3, s4⟩ := hSq; (first | (go_simp; done) | (go_simp; with_reducible rfl)))))
                  try simp only [Act.put, List.setIfInBounds_toArray, List.set_cons_zero, List.set_cons_succ]
                  first | (refine takeU (i := 2) (oi := { dst := some 85, op := Op.move (Operand.tmp 12), type := 3, pos := "ref.go:348", after := #[], guard := none }) rfl (by kernel_rfl) (by kernel_rfl) (by kernel_rfl) (fun _ _ _ h => h) ?_ hHeld ?_; (focus rfl)) | (refine takeW (i := 2) (oi := { dst := some 85, op := Op.move (Operand.tmp 12), type := 3, pos := "ref.go:348", after := #[], guard := none }) ?_ rfl (by kernel_rfl) (by kernel_rfl) (by kernel_rfl) (fun _ _ _ h => h) ?_ ?_ hHeld ?_; rotate_left; (focus rfl); (focus (intro wq hSq; obtain ⟨s0, s1, s2, s3, s4⟩ := hSq; (first | (go_simp; done) | (go_simp; with_reducible rfl)))))
                  try simp only [Act.put, List.setIfInBounds_toArray, List.set_cons_zero, List.set_cons_succ]
                  first | (refine takeU (i := 3) (oi := { dst := some 86, op := Op.fieldAddr 26 (Operand.tmp 10) 1, type := 0, pos := "ref.go:348", after := #[], guard := none }) rfl (by kernel_rfl) (by kernel_rfl) (by kernel_rfl) (fun _ _ _ h => h) ?_ hHeld ?_; (focus rfl)) | (refine takeW (i := 3) (oi := { dst := some 86, op := Op.fieldAddr 26 (Operand.tmp 10) 1, type := 0, pos := "ref.go:348", after := #[], guard := none }) ?_ rfl (by kernel_rfl) (by kernel_rfl) (by kernel_rfl) (fun _ _ _ h => h) ?_ ?_ hHeld ?_; rotate_left; (focus rfl); (focus (intro wq hSq; obtain ⟨s0, s1, s2, s3, s4⟩ := hSq; (first | (go_simp; done) | (go_simp; with_reducible rfl)))))
                  try simp only [Act.put, List.setIfInBounds_toArray, List.set_cons_zero, List.set_cons_succ]
                  first | (refine takeU (i := 4) (oi := { dst := some 87, op := Op.load 24 (Operand.tmp 86), type := 24, pos := "ref.go:348", after := #[{ on := 3, ground := Ground.data }], guard := none }) rfl (by kernel_rfl) (by kernel_rfl) (by kernel_rfl) (fun _ _ _ h => h) ?_ hHeld ?_; (focus rfl)) | (refine takeW (i := 4) (oi := { dst := some 87, op := Op.load 24 (Operand.tmp 86), type := 24, pos := "ref.go:348", after := #[{ on := 3, ground := Ground.data }], guard := none }) ?_ rfl (by kernel_rfl) (by kernel_rfl) (by kernel_rfl) (fun _ _ _ h => h) ?_ ?_ hHeld ?_; rotate_left; (focus rfl); (focus (intro wq hSq; obtain ⟨s0, s1, s2, s3, s4⟩ := hSq; (first | (go_simp; done) | (go_simp; with_reducible rfl)))))
                  try simp only [Act.put, List.setIfInBounds_toArray, List.set_cons_zero, List.set_cons_succ]
                  first | (refine takeU (i := 5) (oi := { dst := some 88, op := Op.move (Operand.tmp 12), type := 3, pos := "ref.go:348", after := #[], guard := none }) rfl (by kernel_rfl) (by kernel_rfl) (by kernel_rfl) (fun _ _ _ h => h) ?_ hHeld ?_; (focus rfl)) | (refine takeW (i := 5) (oi := { dst := some 88, op := Op.move (Operand.tmp 12), type := 3, pos := "ref.go:348", after := #[], guard := none }) ?_ rfl (by kernel_rfl) (by kernel_rfl) (by kernel_rfl) (fun _ _ _ h => h) ?_ ?_ hHeld ?_; rotate_left; (focus rfl); (focus (intro wq hSq; obtain ⟨s0, s1, s2, s3, s4⟩ := hSq; (first | (go_simp; done) | (go_simp; with_reducible rfl)))))
                  try simp only [Act.put, List.setIfInBounds_toArray, List.set_cons_zero, List.set_cons_succ]
                  first | (refine takeU (i := 6) (oi := { dst := some 89, op := Op.indexAddr 24 (Operand.tmp 87) (Operand.tmp 88), type := 0, pos := "ref.go:348", after := #[{ on := 4, ground := Ground.data }, { on := 5, ground := Ground.data }], guard := none }) rfl (by kernel_rfl) (by kernel_rfl) (by kernel_rfl) (fun _ _ _ h => h) ?_ hHeld ?_; (focus rfl)) | (refine takeW (i := 6) (oi := { dst := some 89, op := Op.indexAddr 24 (Operand.tmp 87) (Operand.tmp 88), type := 0, pos := "ref.go:348", after := #[{ on := 4, ground := Ground.data }, { on := 5, ground := Ground.data }], guard := none }) ?_ rfl (by kernel_rfl) (by kernel_rfl) (by kernel_rfl) (fun _ _ _ h => h) ?_ ?_ hHeld ?_; rotate_left; (focus rfl); (focus (intro wq hSq; obtain ⟨s0, s1, s2, s3, s4⟩ := hSq; (first | (go_simp; done) | (go_simp; with_reducible rfl)))))
                  try simp only [Act.put, List.setIfInBounds_toArray, List.set_cons_zero, List.set_cons_succ]
                  first | (refine takeU (i := 8) (oi := { dst := some 91, op := Op.load 26 (Operand.tmp 3), type := 26, pos := "ref.go:348", after := #[], guard := none }) rfl (by kernel_rfl) (by kernel_rfl) (by kernel_rfl) (fun _ _ _ h => h) ?_ hHeld ?_; (focus rfl)) | (refine takeW (i := 8) (oi := { dst := some 91, op := Op.load 26 (Operand.tmp 3), type := 26, pos := "ref.go:348", after := #[], guard := none }) ?_ rfl (by kernel_rfl) (by kernel_rfl) (by kernel_rfl) (fun _ _ _ h => h) ?_ ?_ hHeld ?_; rotate_left; (focus rfl); (focus (intro wq hSq; obtain ⟨s0, s1, s2, s3, s4⟩ := hSq; (first | (go_simp; done) | (go_simp; with_reducible rfl)))))
                  try simp only [Act.put, List.setIfInBounds_toArray, List.set_cons_zero, List.set_cons_succ]
                  first | (refine takeU (i := 9) (oi := { dst := some 92, op := Op.move (Operand.tmp 15), type := 22, pos := "ref.go:348", after := #[], guard := none }) rfl (by kernel_rfl) (by kernel_rfl) (by kernel_rfl) (fun _ _ _ h => h) ?_ hHeld ?_; (focus rfl)) | (refine takeW (i := 9) (oi := { dst := some 92, op := Op.move (Operand.tmp 15), type := 22, pos := "ref.go:348", after := #[], guard := none }) ?_ rfl (by kernel_rfl) (by kernel_rfl) (by kernel_rfl) (fun _ _ _ h => h) ?_ ?_ hHeld ?_; rotate_left; (focus rfl); (focus (intro wq hSq; obtain ⟨s0, s1, s2, s3, s4⟩ := hSq; (first | (go_simp; done) | (go_simp; with_reducible rfl)))))
                  try simp only [Act.put, List.setIfInBounds_toArray, List.set_cons_zero, List.set_cons_succ]
                  first | (refine takeU (i := 11) (oi := { dst := some 94, op := Op.load 26 (Operand.tmp 4), type := 26, pos := "ref.go:348", after := #[], guard := none }) rfl (by kernel_rfl) (by kernel_rfl) (by kernel_rfl) (fun _ _ _ h => h) ?_ hHeld ?_; (focus rfl)) | (refine takeW (i := 11) (oi := { dst := some 94, op := Op.load 26 (Operand.tmp 4), type := 26, pos := "ref.go:348", after := #[], guard := none }) ?_ rfl (by kernel_rfl) (by kernel_rfl) (by kernel_rfl) (fun _ _ _ h => h) ?_ ?_ hHeld ?_; rotate_left; (focus rfl); (focus (intro wq hSq; obtain ⟨s0, s1, s2, s3, s4⟩ := hSq; (first | (go_simp; done) | (go_simp; with_reducible rfl)))))
                  try simp only [Act.put, List.setIfInBounds_toArray, List.set_cons_zero, List.set_cons_succ]
                  first | (refine takeU (i := 12) (oi := { dst := some 95, op := Op.move (Operand.tmp 16), type := 22, pos := "ref.go:348", after := #[], guard := none }) rfl (by kernel_rfl) (by kernel_rfl) (by kernel_rfl) (fun _ _ _ h => h) ?_ hHeld ?_; (focus rfl)) | (refine takeW (i := 12) (oi := { dst := some 95, op := Op.move (Operand.tmp 16), type := 22, pos := "ref.go:348", after := #[], guard := none }) ?_ rfl (by kernel_rfl) (by kernel_rfl) (by kernel_rfl) (fun _ _ _ h => h) ?_ ?_ hHeld ?_; rotate_left; (focus rfl); (focus (intro wq hSq; obtain ⟨s0, s1, s2, s3, s4⟩ := hSq; (first | (go_simp; done) | (go_simp; with_reducible rfl)))))
                  try simp only [Act.put, List.setIfInBounds_toArray, List.set_cons_zero, List.set_cons_succ]
                  refine wpAnyH_ready (rs := [7, 10]) (by kernel_rfl) (by simp) ?_
                  refine (AllReadyH.cons (o := { dst := some 90, op := Op.load 2 (Operand.tmp 89), type := 2, pos := "ref.go:348", after := #[{ on := 6, ground := Ground.data }], guard := none }) rfl (fun K hK => ?_) (AllReadyH.cons (o := { dst := some 93, op := Op.call { callee := Callee.value (Operand.func 34), args := #[Operand.tmp 91, Operand.tmp 92], argTypes := #[26, 22] }, type := 2, pos := "ref.go:348", after := #[{ on := 8, ground := Ground.data }, { on := 9, ground := Ground.data }], guard := none }) rfl (fun K hK => ?_) AllReadyH.nil))
                  · (have hcz := (H0.out.own 5 rfl).cell HZV.out)
                    go_simp
                    try go_wp2_with fail
                    refine hK.out _ _ ?_ (fun hHeld2 => ?_)
                    · first | assumption | (skip)
                    clear hK K hHeld
                    have hHeld := hHeld2; clear hHeld2
                    try simp only [Act.put, List.setIfInBounds_toArray, List.set_cons_zero, List.set_cons_succ]
                    refine wpAnyH_ready (rs := [10]) (by kernel_rfl) (by simp) ?_
                    refine (AllReadyH.cons (o := { dst := some 93, op := Op.call { callee := Callee.value (Operand.func 34), args := #[Operand.tmp 91, Operand.tmp 92], argTypes := #[26, 22] }, type := 2, pos := "ref.go:348", after := #[{ on := 8, ground := Ground.data }, { on := 9, ground := Ground.data }], guard := none }) rfl (fun K hK => ?_) AllReadyH.nil)
                    first | (refine effU ?_ ?_; (focus rfl)) | (go_simp; (go_at_call 34; refine CX.mono ?_; rintro e6 x1 ⟨rfl, hb1⟩; have H1 := Lib.hid (H0.out.below hb1); have cm0 := H1.out.cell 3 1 rfl rfl; have cm1 := H1.out.cell 9 0 rfl rfl; have cm2 := H1.out.cell 9 1 rfl rfl; have cm3 := H1.out.cell 8 0 rfl rfl; have cm4 := H1.out.cell 8 1 rfl rfl; clear hb1); go_wp2_with fail)
                    refine hK.out _ _ ?_ (fun hHeld2 => ?_)
                    · first | assumption | (exact ⟨cm0, cm1, cm2, cm3, cm4⟩)
                    clear hK K hHeld
                    have hHeld := hHeld2; clear hHeld2
                    try simp only [Act.put, List.setIfInBounds_toArray, List.set_cons_zero, List.set_cons_succ]
                    refine wpAnyH_ready (rs := [13]) (by kernel_rfl) (by simp) ?_
                    refine (AllReadyH.cons (o := { dst := some 96, op := Op.call { callee := Callee.value (Operand.func 34), args := #[Operand.tmp 94, Operand.tmp 95], argTypes := #[26, 22] }, type := 2, pos := "ref.go:348", after := #[{ on := 11, ground := Ground.data }, { on := 12, ground := Ground.data }, { on := 10, ground := Ground.chain }], guard := none }) rfl (fun K hK => ?_) AllReadyH.nil)
                    first | (refine effU ?_ ?_; (focus rfl)) | (go_simp; (go_at_call 34; refine (ref4Number_any (c := cy) (ten_mk (H1.out.oldInts 12 rfl) hnc2 (H1.out.oldInts 13 rfl) hme2) (H1.out.ownInts 0 rfl).2.2 HRT2.out HY12.out.1 HY12.out.2).mono ?_; rw [HV.out]; rintro e8 x2 ⟨rfl, hb2⟩; have H2 := Lib.hid (H1.out.below hb2); have cr0 := H2.out.cell 3 1 rfl rfl; have cr1 := H2.out.cell 9 0 rfl rfl; have cr2 := H2.out.cell 9 1 rfl rfl; have cr3 := H2.out.cell 8 0 rfl rfl; have cr4 := H2.out.cell 8 1 rfl rfl; clear hb2); go_wp2_with fail)
                    refine hK.out _ _ ?_ (fun hHeld2 => ?_)
                    · first | assumption | (exact ⟨cr0, cr1, cr2, cr3, cr4⟩)
                    clear hK K hHeld
                    have hHeld := hHeld2; clear hHeld2
                    try simp only [Act.put, List.setIfInBounds_toArray, List.set_cons_zero, List.set_cons_succ]
                    first | (refine takeU (i := 14) (oi := { dst := some 97, op := Op.binOp BinOp.mul 2 (Operand.tmp 93) (Operand.tmp 96) 2, type := 2, pos := "ref.go:348", after := #[{ on := 10, ground := Ground.data }, { on := 13, ground := Ground.data }], guard := none }) rfl (by kernel_rfl) (by kernel_rfl) (by kernel_rfl) (fun _ _ _ h => h) ?_ hHeld ?_; (focus rfl)) | (refine takeW (i := 14) (oi := { dst := some 97, op := Op.binOp BinOp.mul 2 (Operand.tmp 93) (Operand.tmp 96) 2, type := 2, pos := "ref.go:348", after := #[{ on := 10, ground := Ground.data }, { on := 13, ground := Ground.data }], guard := none }) ?_ rfl (by kernel_rfl) (by kernel_rfl) (by kernel_rfl) (fun _ _ _ h => h) ?_ ?_ hHeld ?_; rotate_left; (focus rfl); (focus (intro wq hSq; obtain ⟨s0, s1, s2, s3, s4⟩ := hSq; (first | (go_simp; done) | (go_simp; with_reducible rfl)))))
                    try simp only [Act.put, List.setIfInBounds_toArray, List.set_cons_zero, List.set_cons_succ]
                    first | (refine takeU (i := 15) (oi := { dst := some 98, op := Op.binOp BinOp.add 2 (Operand.tmp 90) (Operand.tmp 97) 2, type := 2, pos := "ref.go:348", after := #[{ on := 7, ground := Ground.data }, { on := 14, ground := Ground.data }], guard := none }) rfl (by kernel_rfl) (by kernel_rfl) (by kernel_rfl) (fun _ _ _ h => h) ?_ hHeld ?_; (focus rfl)) | (refine takeW (i := 15) (oi := { dst := some 98, op := Op.binOp BinOp.add 2 (Operand.tmp 90) (Operand.tmp 97) 2, type := 2, pos := "ref.go:348", after := #[{ on := 7, ground := Ground.data }, { on := 14, ground := Ground.data }], guard := none }) ?_ rfl (by kernel_rfl) (by kernel_rfl) (by kernel_rfl) (fun _ _ _ h => h) ?_ ?_ hHeld ?_; rotate_left; (focus rfl); (focus (intro wq hSq; obtain ⟨s0, s1, s2, s3, s4⟩ := hSq; (first | (go_simp; done) | (go_simp; with_reducible rfl)))))
                    try simp only [Act.put, List.setIfInBounds_toArray, List.set_cons_zero, List.set_cons_succ]
                    first | (refine takeU (i := 16) (oi := { dst := some 99, op := Op.indexAddr 24 (Operand.tmp 84) (Operand.tmp 85), type := 0, pos := "ref.go:348", after := #[{ on := 1, ground := Ground.data }, { on := 2, ground := Ground.data }, { on := 0, ground := Ground.phase }, { on := 1, ground := Ground.phase }, { on := 2, ground := Ground.phase }, { on := 3, ground := Ground.phase }, { on := 4, ground := Ground.phase }, { on := 5, ground := Ground.phase }, { on := 6, ground := Ground.phase }, { on := 7, ground := Ground.phase }, { on := 8, ground := Ground.phase }, { on := 9, ground := Ground.phase }, { on := 10, ground := Ground.phase }, { on := 11, ground := Ground.phase }, { on := 12, ground := Ground.phase }, { on := 13, ground := Ground.phase }, { on := 14, ground := Ground.phase }, { on := 15, ground := Ground.phase }], guard := none }) rfl (by kernel_rfl) (by kernel_rfl) (by kernel_rfl) (fun _ _ _ h => h) ?_ hHeld ?_; (focus rfl)) | (refine takeW (i := 16) (oi := { dst := some 99, op := Op.indexAddr 24 (Operand.tmp 84) (Operand.tmp 85), type := 0, pos := "ref.go:348", after := #[{ on := 1, ground := Ground.data }, { on := 2, ground := Ground.data }, { on := 0, ground := Ground.phase }, { on := 1, ground := Ground.phase }, { on := 2, ground := Ground.phase }, { on := 3, ground := Ground.phase }, { on := 4, ground := Ground.phase }, { on := 5, ground := Ground.phase }, { on := 6, ground := Ground.phase }, { on := 7, ground := Ground.phase }, { on := 8, ground := Ground.phase }, { on := 9, ground := Ground.phase }, { on := 10, ground := Ground.phase }, { on := 11, ground := Ground.phase }, { on := 12, ground := Ground.phase }, { on := 13, ground := Ground.phase }, { on := 14, ground := Ground.phase }, { on := 15, ground := Ground.phase }], guard := none }) ?_ rfl (by kernel_rfl) (by kernel_rfl) (by kernel_rfl) (fun _ _ _ h => h) ?_ ?_ hHeld ?_; rotate_left; (focus rfl); (focus (intro wq hSq; obtain ⟨s0, s1, s2, s3, s4⟩ := hSq; (first | (go_simp; done) | (go_simp; with_reducible rfl)))))
                    try simp only [Act.put, List.setIfInBounds_toArray, List.set_cons_zero, List.set_cons_succ]
                    refine wpAnyH_ready (rs := [17]) (by kernel_rfl) (by simp) ?_
                    refine (AllReadyH.cons (o := { dst := none, op := Op.store 2 (Operand.tmp 99) (Operand.tmp 98), type := 0, pos := "ref.go:348", after := #[{ on := 16, ground := Ground.data }, { on := 15, ground := Ground.data }, { on := 13, ground := Ground.chain }, { on := 0, ground := Ground.phase }, { on := 1, ground := Ground.phase }, { on := 2, ground := Ground.phase }, { on := 3, ground := Ground.phase }, { on := 4, ground := Ground.phase }, { on := 5, ground := Ground.phase }, { on := 6, ground := Ground.phase }, { on := 7, ground := Ground.phase }, { on := 8, ground := Ground.phase }, { on := 9, ground := Ground.phase }, { on := 10, ground := Ground.phase }, { on := 11, ground := Ground.phase }, { on := 12, ground := Ground.phase }, { on := 13, ground := Ground.phase }, { on := 14, ground := Ground.phase }, { on := 15, ground := Ground.phase }], guard := none }) rfl (fun K hK => ?_) AllReadyH.nil)
                    (have hcs := (H2.out.own 5 rfl).cell HZV.out; have hfs := (H2.out.own 5 rfl).frozen i; have h9 := H2.out.store 5 i (x := IntKind.i64.wrap (V + IntKind.i64.wrap (u * v))) (by rw [IntWalk.i64_left]; exact fits_wrap _) rfl; have HS8 := Lib.hid h9; rw [IntWalk.i64_left, IntWalk.i64_left, HST.out] at h9; have HS9 := Lib.hid h9; clear h9; have cg0 := HS8.out.cell 3 1 rfl rfl; have cg1 := HS8.out.cell 9 0 rfl rfl; have cg2 := HS8.out.cell 9 1 rfl rfl; have cg3 := HS8.out.cell 8 0 rfl rfl; have cg4 := HS8.out.cell 8 1 rfl rfl)
                    go_simp
                    try go_wp2_with fail
                    refine hK.out _ _ ?_ (fun hHeld2 => ?_)
                    · first | assumption | (exact ⟨cg0, cg1, cg2, cg3, cg4⟩)
                    clear hK K hHeld
                    have hHeld := hHeld2; clear hHeld2
                    try simp only [Act.put, List.setIfInBounds_toArray, List.set_cons_zero, List.set_cons_succ]
                    refine wpAnyH_done (by kernel_rfl) ?_ _
                    go_wp2
                    go_roundw
                    case rel => exact ⟨J + 1, by go_num, by omega, HS9.out.sub [2, 3, 4, 5, 6, 7, 8, 9, 10, 11, 12, 13] rfl (by decide)⟩
                    case measure => simp [intOf]; omega
                  · first | (refine effU ?_ ?_; (focus rfl)) | (go_simp; (go_at_call 34; refine CX.mono ?_; rintro e6 x1 ⟨rfl, hb1⟩; have H1 := Lib.hid (H0.out.below hb1); have cm0 := H1.out.cell 3 1 rfl rfl; have cm1 := H1.out.cell 9 0 rfl rfl; have cm2 := H1.out.cell 9 1 rfl rfl; have cm3 := H1.out.cell 8 0 rfl rfl; have cm4 := H1.out.cell 8 1 rfl rfl; clear hb1); go_wp2_with fail)
                    refine hK.out _ _ ?_ (fun hHeld2 => ?_)
                    · first | assumption | (exact ⟨cm0, cm1, cm2, cm3, cm4⟩)
                    clear hK K hHeld
                    have hHeld := hHeld2; clear hHeld2
                    try simp only [Act.put, List.setIfInBounds_toArray, List.set_cons_zero, List.set_cons_succ]
                    refine wpAnyH_ready (rs := [7, 13]) (by kernel_rfl) (by simp) ?_
                    refine (AllReadyH.cons (o := { dst := some 90, op := Op.load 2 (Operand.tmp 89), type := 2, pos := "ref.go:348", after := #[{ on := 6, ground := Ground.data }], guard := none }) rfl (fun K hK => ?_) (AllReadyH.cons (o := { dst := some 96, op := Op.call { callee := Callee.value (Operand.func 34), args := #[Operand.tmp 94, Operand.tmp 95], argTypes := #[26, 22] }, type := 2, pos := "ref.go:348", after := #[{ on := 11, ground := Ground.data }, { on := 12, ground := Ground.data }, { on := 10, ground := Ground.chain }], guard := none }) rfl (fun K hK => ?_) AllReadyH.nil))
                    · (have hcz := (H1.out.own 5 rfl).cell HZV.out)
                      go_simp
                      try go_wp2_with fail
                      refine hK.out _ _ ?_ (fun hHeld2 => ?_)
                      · first | assumption | (skip)
                      clear hK K hHeld
                      have hHeld := hHeld2; clear hHeld2
                      try simp only [Act.put, List.setIfInBounds_toArray, List.set_cons_zero, List.set_cons_succ]
                      refine wpAnyH_ready (rs := [13]) (by kernel_rfl) (by simp) ?_
                      refine (AllReadyH.cons (o := { dst := some 96, op := Op.call { callee := Callee.value (Operand.func 34), args := #[Operand.tmp 94, Operand.tmp 95], argTypes := #[26, 22] }, type := 2, pos := "ref.go:348", after := #[{ on := 11, ground := Ground.data }, { on := 12, ground := Ground.data }, { on := 10, ground := Ground.chain }], guard := none }) rfl (fun K hK => ?_) AllReadyH.nil)
                      first | (refine effU ?_ ?_; (focus rfl)) | (go_simp; (go_at_call 34; refine (ref4Number_any (c := cy) (ten_mk (H1.out.oldInts 12 rfl) hnc2 (H1.out.oldInts 13 rfl) hme2) (H1.out.ownInts 0 rfl).2.2 HRT2.out HY12.out.1 HY12.out.2).mono ?_; rw [HV.out]; rintro e8 x2 ⟨rfl, hb2⟩; have H2 := Lib.hid (H1.out.below hb2); have cr0 := H2.out.cell 3 1 rfl rfl; have cr1 := H2.out.cell 9 0 rfl rfl; have cr2 := H2.out.cell 9 1 rfl rfl; have cr3 := H2.out.cell 8 0 rfl rfl; have cr4 := H2.out.cell 8 1 rfl rfl; clear hb2); go_wp2_with fail)
                      refine hK.out _ _ ?_ (fun hHeld2 => ?_)
                      · first | assumption | (exact ⟨cr0, cr1, cr2, cr3, cr4⟩)
                      clear hK K hHeld
                      have hHeld := hHeld2; clear hHeld2
                      try simp only [Act.put, List.setIfInBounds_toArray, List.set_cons_zero, List.set_cons_succ]
                      first | (refine takeU (i := 14) (oi := { dst := some 97, op := Op.binOp BinOp.mul 2 (Operand.tmp 93) (Operand.tmp 96) 2, type := 2, pos := "ref.go:348", after := #[{ on := 10, ground := Ground.data }, { on := 13, ground := Ground.data }], guard := none }) rfl (by kernel_rfl) (by kernel_rfl) (by kernel_rfl) (fun _ _ _ h => h) ?_ hHeld ?_; (focus rfl)) | (refine takeW (i := 14) (oi := { dst := some 97, op := Op.binOp BinOp.mul 2 (Operand.tmp 93) (Operand.tmp 96) 2, type := 2, pos := "ref.go:348", after := #[{ on := 10, ground := Ground.data }, { on := 13, ground := Ground.data }], guard := none }) ?_ rfl (by kernel_rfl) (by kernel_rfl) (by kernel_rfl) (fun _ _ _ h => h) ?_ ?_ hHeld ?_; rotate_left; (focus rfl); (focus (intro wq hSq; obtain ⟨s0, s1, s2, s3, s4⟩ := hSq; (first | (go_simp; done) | (go_simp; with_reducible rfl)))))
                      try simp only [Act.put, List.setIfInBounds_toArray, List.set_cons_zero, List.set_cons_succ]
                      first | (refine takeU (i := 15) (oi := { dst := some 98, op := Op.binOp BinOp.add 2 (Operand.tmp 90) (Operand.tmp 97) 2, type := 2, pos := "ref.go:348", after := #[{ on := 7, ground := Ground.data }, { on := 14, ground := Ground.data }], guard := none }) rfl (by kernel_rfl) (by kernel_rfl) (by kernel_rfl) (fun _ _ _ h => h) ?_ hHeld ?_; (focus rfl)) | (refine takeW (i := 15) (oi := { dst := some 98, op := Op.binOp BinOp.add 2 (Operand.tmp 90) (Operand.tmp 97) 2, type := 2, pos := "ref.go:348", after := #[{ on := 7, ground := Ground.data }, { on := 14, ground := Ground.data }], guard := none }) ?_ rfl (by kernel_rfl) (by kernel_rfl) (by kernel_rfl) (fun _ _ _ h => h) ?_ ?_ hHeld ?_; rotate_left; (focus rfl); (focus (intro wq hSq; obtain ⟨s0, s1, s2, s3, s4⟩ := hSq; (first | (go_simp; done) | (go_simp; with_reducible rfl)))))
                      try simp only [Act.put, List.setIfInBounds_toArray, List.set_cons_zero, List.set_cons_succ]
                      first | (refine takeU (i := 16) (oi := { dst := some 99, op := Op.indexAddr 24 (Operand.tmp 84) (Operand.tmp 85), type := 0, pos := "ref.go:348", after := #[{ on := 1, ground := Ground.data }, { on := 2, ground := Ground.data }, { on := 0, ground := Ground.phase }, { on := 1, ground := Ground.phase }, { on := 2, ground := Ground.phase }, { on := 3, ground := Ground.phase }, { on := 4, ground := Ground.phase }, { on := 5, ground := Ground.phase }, { on := 6, ground := Ground.phase }, { on := 7, ground := Ground.phase }, { on := 8, ground := Ground.phase }, { on := 9, ground := Ground.phase }, { on := 10, ground := Ground.phase }, { on := 11, ground := Ground.phase }, { on := 12, ground := Ground.phase }, { on := 13, ground := Ground.phase }, { on := 14, ground := Ground.phase }, { on := 15, ground := Ground.phase }], guard := none }) rfl (by kernel_rfl) (by kernel_rfl) (by kernel_rfl) (fun _ _ _ h => h) ?_ hHeld ?_; (focus rfl)) | (refine takeW (i := 16) (oi := { dst := some 99, op := Op.indexAddr 24 (Operand.tmp 84) (Operand.tmp 85), type := 0, pos := "ref.go:348", after := #[{ on := 1, ground := Ground.data }, { on := 2, ground := Ground.data }, { on := 0, ground := Ground.phase }, { on := 1, ground := Ground.phase }, { on := 2, ground := Ground.phase }, { on := 3, ground := Ground.phase }, { on := 4, ground := Ground.phase }, { on := 5, ground := Ground.phase }, { on := 6, ground := Ground.phase }, { on := 7, ground := Ground.phase }, { on := 8, ground := Ground.phase }, { on := 9, ground := Ground.phase }, { on := 10, ground := Ground.phase }, { on := 11, ground := Ground.phase }, { on := 12, ground := Ground.phase }, { on := 13, ground := Ground.phase }, { on := 14, ground := Ground.phase }, { on := 15, ground := Ground.phase }], guard := none }) ?_ rfl (by kernel_rfl) (by kernel_rfl) (by kernel_rfl) (fun _ _ _ h => h) ?_ ?_ hHeld ?_; rotate_left; (focus rfl); (focus (intro wq hSq; obtain ⟨s0, s1, s2, s3, s4⟩ := hSq; (first | (go_simp; done) | (go_simp; with_reducible rfl)))))
                      try simp only [Act.put, List.setIfInBounds_toArray, List.set_cons_zero, List.set_cons_succ]
                      refine wpAnyH_ready (rs := [17]) (by kernel_rfl) (by simp) ?_
                      refine (AllReadyH.cons (o := { dst := none, op := Op.store 2 (Operand.tmp 99) (Operand.tmp 98), type := 0, pos := "ref.go:348", after := #[{ on := 16, ground := Ground.data }, { on := 15, ground := Ground.data }, { on := 13, ground := Ground.chain }, { on := 0, ground := Ground.phase }, { on := 1, ground := Ground.phase }, { on := 2, ground := Ground.phase }, { on := 3, ground := Ground.phase }, { on := 4, ground := Ground.phase }, { on := 5, ground := Ground.phase }, { on := 6, ground := Ground.phase }, { on := 7, ground := Ground.phase }, { on := 8, ground := Ground.phase }, { on := 9, ground := Ground.phase }, { on := 10, ground := Ground.phase }, { on := 11, ground := Ground.phase }, { on := 12, ground := Ground.phase }, { on := 13, ground := Ground.phase }, { on := 14, ground := Ground.phase }, { on := 15, ground := Ground.phase }], guard := none }) rfl (fun K hK => ?_) AllReadyH.nil)
                      (have hcs := (H2.out.own 5 rfl).cell HZV.out; have hfs := (H2.out.own 5 rfl).frozen i; have h9 := H2.out.store 5 i (x := IntKind.i64.wrap (V + IntKind.i64.wrap (u * v))) (by rw [IntWalk.i64_left]; exact fits_wrap _) rfl; have HS8 := Lib.hid h9; rw [IntWalk.i64_left, IntWalk.i64_left, HST.out] at h9; have HS9 := Lib.hid h9; clear h9; have cg0 := HS8.out.cell 3 1 rfl rfl; have cg1 := HS8.out.cell 9 0 rfl rfl; have cg2 := HS8.out.cell 9 1 rfl rfl; have cg3 := HS8.out.cell 8 0 rfl rfl; have cg4 := HS8.out.cell 8 1 rfl rfl)
                      go_simp
                      try go_wp2_with fail
                      refine hK.out _ _ ?_ (fun hHeld2 => ?_)
                      · first | assumption | (exact ⟨cg0, cg1, cg2, cg3, cg4⟩)
                      clear hK K hHeld
                      have hHeld := hHeld2; clear hHeld2
                      try simp only [Act.put, List.setIfInBounds_toArray, List.set_cons_zero, List.set_cons_succ]
                      refine wpAnyH_done (by kernel_rfl) ?_ _
                      go_wp2
                      go_roundw
                      case rel => exact ⟨J + 1, by go_num, by omega, HS9.out.sub [2, 3, 4, 5, 6, 7, 8, 9, 10, 11, 12, 13] rfl (by decide)⟩
                      case measure => simp [intOf]; omega
                    · first | (refine effU ?_ ?_; (focus rfl)) | (go_simp; (go_at_call 34; refine (ref4Number_any (c := cy) (ten_mk (H1.out.oldInts 12 rfl) hnc2 (H1.out.oldInts 13 rfl) hme2) (H1.out.ownInts 0 rfl).2.2 HRT2.out HY12.out.1 HY12.out.2).mono ?_; rw [HV.out]; rintro e8 x2 ⟨rfl, hb2⟩; have H2 := Lib.hid (H1.out.below hb2); have cr0 := H2.out.cell 3 1 rfl rfl; have cr1 := H2.out.cell 9 0 rfl rfl; have cr2 := H2.out.cell 9 1 rfl rfl; have cr3 := H2.out.cell 8 0 rfl rfl; have cr4 := H2.out.cell 8 1 rfl rfl; clear hb2); go_wp2_with fail)
                      refine hK.out _ _ ?_ (fun hHeld2 => ?_)
                      · first | assumption | (exact ⟨cr0, cr1, cr2, cr3, cr4⟩)
                      clear hK K hHeld
                      have hHeld := hHeld2; clear hHeld2
                      try simp only [Act.put, List.setIfInBounds_toArray, List.set_cons_zero, List.set_cons_succ]
                      first | (refine takeU (i := 14) (oi := { dst := some 97, op := Op.binOp BinOp.mul 2 (Operand.tmp 93) (Operand.tmp 96) 2, type := 2, pos := "ref.go:348", after := #[{ on := 10, ground := Ground.data }, { on := 13, ground := Ground.data }], guard := none }) rfl (by kernel_rfl) (by kernel_rfl) (by kernel_rfl) (fun _ _ _ h => h) ?_ hHeld ?_; (focus rfl)) | (refine takeW (i := 14) (oi := { dst := some 97, op := Op.binOp BinOp.mul 2 (Operand.tmp 93) (Operand.tmp 96) 2, type := 2, pos := "ref.go:348", after := #[{ on := 10, ground := Ground.data }, { on := 13, ground := Ground.data }], guard := none }) ?_ rfl (by kernel_rfl) (by kernel_rfl) (by kernel_rfl) (fun _ _ _ h => h) ?_ ?_ hHeld ?_; rotate_left; (focus rfl); (focus (intro wq hSq; obtain ⟨s0, s1, s2, s3, s4⟩ := hSq; (first | (go_simp; done) | (go_simp; with_reducible rfl)))))
                      try simp only [Act.put, List.setIfInBounds_toArray, List.set_cons_zero, List.set_cons_succ]
                      refine wpAnyH_ready (rs := [7]) (by kernel_rfl) (by simp) ?_
                      refine (AllReadyH.cons (o := { dst := some 90, op := Op.load 2 (Operand.tmp 89), type := 2, pos := "ref.go:348", after := #[{ on := 6, ground := Ground.data }], guard := none }) rfl (fun K hK => ?_) AllReadyH.nil)
                      (have hcz := (H2.out.own 5 rfl).cell HZV.out)
                      go_simp
                      try go_wp2_with fail
                      refine hK.out _ _ ?_ (fun hHeld2 => ?_)
                      · first | assumption | (skip)
                      clear hK K hHeld
                      have hHeld := hHeld2; clear hHeld2
                      try simp only [Act.put, List.setIfInBounds_toArray, List.set_cons_zero, List.set_cons_succ]
                      first | (refine takeU (i := 15) (oi := { dst := some 98, op := Op.binOp BinOp.add 2 (Operand.tmp 90) (Operand.tmp 97) 2, type := 2, pos := "ref.go:348", after := #[{ on := 7, ground := Ground.data }, { on := 14, ground := Ground.data }], guard := none }) rfl (by kernel_rfl) (by kernel_rfl) (by kernel_rfl) (fun _ _ _ h => h) ?_ hHeld ?_; (focus rfl)) | (refine takeW (i := 15) (oi := { dst := some 98, op := Op.binOp BinOp.add 2 (Operand.tmp 90) (Operand.tmp 97) 2, type := 2, pos := "ref.go:348", after := #[{ on := 7, ground := Ground.data }, { on := 14, ground := Ground.data }], guard := none }) ?_ rfl (by kernel_rfl) (by kernel_rfl) (by kernel_rfl) (fun _ _ _ h => h) ?_ ?_ hHeld ?_; rotate_left; (focus rfl); (focus (intro wq hSq; obtain ⟨s0, s1, s2, s3, s4⟩ := hSq; (first | (go_simp; done) | (go_simp; with_reducible rfl)))))
                      try simp only [Act.put, List.setIfInBounds_toArray, List.set_cons_zero, List.set_cons_succ]
                      first | (refine takeU (i := 16) (oi := { dst := some 99, op := Op.indexAddr 24 (Operand.tmp 84) (Operand.tmp 85), type := 0, pos := "ref.go:348", after := #[{ on := 1, ground := Ground.data }, { on := 2, ground := Ground.data }, { on := 0, ground := Ground.phase }, { on := 1, ground := Ground.phase }, { on := 2, ground := Ground.phase }, { on := 3, ground := Ground.phase }, { on := 4, ground := Ground.phase }, { on := 5, ground := Ground.phase }, { on := 6, ground := Ground.phase }, { on := 7, ground := Ground.phase }, { on := 8, ground := Ground.phase }, { on := 9, ground := Ground.phase }, { on := 10, ground := Ground.phase }, { on := 11, ground := Ground.phase }, { on := 12, ground := Ground.phase }, { on := 13, ground := Ground.phase }, { on := 14, ground := Ground.phase }, { on := 15, ground := Ground.phase }], guard := none }) rfl (by kernel_rfl) (by kernel_rfl) (by kernel_rfl) (fun _ _ _ h => h) ?_ hHeld ?_; (focus rfl)) | (refine takeW (i := 16) (oi := { dst := some 99, op := Op.indexAddr 24 (Operand.tmp 84) (Operand.tmp 85), type := 0, pos := "ref.go:348", after := #[{ on := 1, ground := Ground.data }, { on := 2, ground := Ground.data }, { on := 0, ground := Ground.phase }, { on := 1, ground := Ground.phase }, { on := 2, ground := Ground.phase }, { on := 3, ground := Ground.phase }, { on := 4, ground := Ground.phase }, { on := 5, ground := Ground.phase }, { on := 6, ground := Ground.phase }, { on := 7, ground := Ground.phase }, { on := 8, ground := Ground.phase }, { on := 9, ground := Ground.phase }, { on := 10, ground := Ground.phase }, { on := 11, ground := Ground.phase }, { on := 12, ground := Ground.phase }, { on := 13, ground := Ground.phase }, { on := 14, ground := Ground.phase }, { on := 15, ground := Ground.phase }], guard := none }) ?_ rfl (by kernel_rfl) (by kernel_rfl) (by kernel_rfl) (fun _ _ _ h => h) ?_ ?_ hHeld ?_; rotate_left; (focus rfl); (focus (intro wq hSq; obtain ⟨s0, s1, s2, s3, s4⟩ := hSq; (first | (go_simp; done) | (go_simp; with_reducible rfl)))))
                      try simp only [Act.put, List.setIfInBounds_toArray, List.set_cons_zero, List.set_cons_succ]
                      refine wpAnyH_ready (rs := [17]) (by kernel_rfl) (by simp) ?_
                      refine (AllReadyH.cons (o := { dst := none, op := Op.store 2 (Operand.tmp 99) (Operand.tmp 98), type := 0, pos := "ref.go:348", after := #[{ on := 16, ground := Ground.data }, { on := 15, ground := Ground.data }, { on := 13, ground := Ground.chain }, { on := 0, ground := Ground.phase }, { on := 1, ground := Ground.phase }, { on := 2, ground := Ground.phase }, { on := 3, ground := Ground.phase }, { on := 4, ground := Ground.phase }, { on := 5, ground := Ground.phase }, { on := 6, ground := Ground.phase }, { on := 7, ground := Ground.phase }, { on := 8, ground := Ground.phase }, { on := 9, ground := Ground.phase }, { on := 10, ground := Ground.phase }, { on := 11, ground := Ground.phase }, { on := 12, ground := Ground.phase }, { on := 13, ground := Ground.phase }, { on := 14, ground := Ground.phase }, { on := 15, ground := Ground.phase }], guard := none }) rfl (fun K hK => ?_) AllReadyH.nil)
                      (have hcs := (H2.out.own 5 rfl).cell HZV.out; have hfs := (H2.out.own 5 rfl).frozen i; have h9 := H2.out.store 5 i (x := IntKind.i64.wrap (V + IntKind.i64.wrap (u * v))) (by rw [IntWalk.i64_left]; exact fits_wrap _) rfl; have HS8 := Lib.hid h9; rw [IntWalk.i64_left, IntWalk.i64_left, HST.out] at h9; have HS9 := Lib.hid h9; clear h9; have cg0 := HS8.out.cell 3 1 rfl rfl; have cg1 := HS8.out.cell 9 0 rfl rfl; have cg2 := HS8.out.cell 9 1 rfl rfl; have cg3 := HS8.out.cell 8 0 rfl rfl; have cg4 := HS8.out.cell 8 1 rfl rfl)
                      go_simp
                      try go_wp2_with fail
                      refine hK.out _ _ ?_ (fun hHeld2 => ?_)
                      · first | assumption | (exact ⟨cg0, cg1, cg2, cg3, cg4⟩)
                      clear hK K hHeld
                      have hHeld := hHeld2; clear hHeld2
                      try simp only [Act.put, List.setIfInBounds_toArray, List.set_cons_zero, List.set_cons_succ]
                      refine wpAnyH_done (by kernel_rfl) ?_ _
                      go_wp2
                      go_roundw
                      case rel => exact ⟨J + 1, by go_num, by omega, HS9.out.sub [2, 3, 4, 5, 6, 7, 8, 9, 10, 11, 12, 13] rfl (by decide)⟩
                      case measure => simp [intOf]; omega
              · have hjm : M = J := by omega
                subst hjm
                have hS := H.out
                rw [mix_step HTG.out (HAT.out i hli)] at hS
                replace H := Lib.hid hS
                clear hS
                go_wp2
                go_roundw
                case rel => exact ⟨i + 1, by go_num, by omega, H.out.sub [1, 2, 3, 4, 5, 6, 7, 8, 9, 10, 11] rfl (by decide)⟩
                case measure => simp [intOf]; omega
          · have hin : N = i := by omega
            subst hin
            have hS := H.out
            rw [mix_end HTG.out, ← HQ.out] at hS
            replace H := Lib.hid hS
            clear hS
            have HQ3 := Lib.hid (show dotR s d t k nn = (0, Z, dotD s d t k nn) by rw [dotR_ok HBOTH.out HOK.out, HZ.out])
            have o0 := H.out.cell 0 0 rfl rfl
            have o1 := H.out.cell 0 1 rfl rfl
            have r0 := H.out.cell 4 0 rfl rfl
            have r1 := H.out.cell 4 1 rfl rfl
            have fr0 := H.out.frozenBox 4 0 rfl
            have fr1 := H.out.frozenBox 4 1 rfl
            go_wp2
            rw [HQ3.out]
            exact sep_ret2 ((H.out.setBox 4 0 (.slice S1 ns sc) rfl).setBox 4 1 (.slice D1 N dc) rfl) 4 rfl (z := .int .i64 0) Try.results21 rfl rfl rfl ⟨⟨_, rfl, _, _, ns, N, rfl, ((H.out.setBox 4 0 (.slice S1 ns sc) rfl).setBox 4 1 (.slice D1 N dc) rfl).ownS 1 rfl, ((H.out.setBox 4 0 (.slice S1 ns sc) rfl).setBox 4 1 (.slice D1 N dc) rfl).ownS 2 rfl⟩, ((H.out.setBox 4 0 (.slice S1 ns sc) rfl).setBox 4 1 (.slice D1 N dc) rfl).base⟩
      · have HX := Lib.hid (dotR_shape HBOTH.out hz)
        obtain ⟨E, hE⟩ : ∃ E, (dsR s t n0).1 = E := ⟨_, rfl⟩
        rw [hE] at HX hz ⊢
        have dE : (E != 0) = true := by simpa using hz
        replace H := Lib.hid (H.out.addOwn hb5 hO)
        clear hz hO hb5 hE
        have r0 := H.out.cell 1 0 rfl rfl
        have r1 := H.out.cell 1 1 rfl rfl
        have fr0 := H.out.frozenBox 1 0 rfl
        have fr1 := H.out.frozenBox 1 1 rfl
        go_wp2
        rw [HX.out]
        exact sep_ret2 ((H.out.setBox 1 0 (.slice none 0 0) rfl).setBox 1 1 (.slice none 0 0) rfl) 1 rfl (z := .int .i64 E) Try.results21 rfl rfl rfl ⟨⟨_, rfl, _, _, 0, 0, rfl, OwnS.nil_ _ _ _, OwnS.nil_ _ _ _⟩, ((H.out.setBox 1 0 (.slice none 0 0) rfl).setBox 1 1 (.slice none 0 0) rfl).base⟩
end Go.Proofs.Ytihjobpdphljiaa
