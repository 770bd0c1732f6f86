/- Tensors in memory; the reference's calls on them. -/
import Derived.Test.YtiigbkjkmfjhcaaRef
import Derived.Test.YtiigbkjkmfjhcaaTapeN
import Derived.Test.YtiigbkjkmfjhcaaKitApp
import Derived.Test.YtiigbkjkmfjhcaaShapeMathB
import Derived.Deep.RegionHeld3
namespace Go.Proofs.Ytiigbkjkmfjhcaa
open Go.RowKit

theorem Try.infoI64 : (Try.prog.info? 2).map (fun i => (i.zero, i.size, i.bytes)) = some (some (.int .i64 0), 1, 8) := by kernel_rfl

/-- The value v is, in w, a tensor of shape s and of the numbers d (right or not). -/
def Ten (w : World) (v : Value) (s d : List Int) : Prop :=
  ∃ (A : Option Addr) (n c : Nat) (B : Option Addr) (m e : Nat), v = .agg #[.slice A n c, .slice B m e] ∧ n ≤ c ∧ m ≤ e ∧ Ints w A n s ∧ Ints w B m d
/-- .. whose two lists are the call's own. -/
def OTen (w : World) (base : Nat) (v : Value) (s d : List Int) : Prop :=
  ∃ (vs vd : Value) (n m : Nat), v = .agg #[vs, vd] ∧ OwnS w base 3 vs n s ∧ OwnS w base 2 vd m d

section
variable {w w' : World} {base : Nat} {v : Value} {s d : List Int}
theorem Ten.below (h : Ten w v s d) (hb : Below w.heap.size w w') : Ten w' v s d := by
  obtain ⟨A, n, c, B, m, e, rfl, h1, h2, h3, h4⟩ := h
  exact ⟨A, n, c, B, m, e, rfl, h1, h2, h3.below hb, h4.below hb⟩
theorem OTen.below (h : OTen w base v s d) (hb : Below w.heap.size w w') : OTen w' base v s d := by
  obtain ⟨vs, vd, n, m, rfl, h1, h2⟩ := h
  exact ⟨vs, vd, n, m, rfl, h1.below hb, h2.below hb⟩
theorem OTen.ten (h : OTen w base v s d) : Ten w v s d := by
  obtain ⟨vs, vd, n, m, rfl, h1, h2⟩ := h
  obtain ⟨A, c, rfl, hc, hI, _⟩ := h1.form
  obtain ⟨B, e, rfl, he, hJ, _⟩ := h2.form
  exact ⟨A, n, c, B, m, e, rfl, hc, he, hI, hJ⟩
end

theorem Try.sizeTen : (Try.prog.info? 27).map (·.size) = some 2 := by kernel_rfl

/-- A call that gives a tensor hands back what its result's block holds. -/
theorem ret_ten {fn : Func} {R : Ending → World → Prop} {a : Act} {w : World} {p : Tmp} (g : Nat) (x y : Value) (h : fn.results = #[.cell p 27]) (hp : a.tmps.getD p undef = .pointer (some ⟨g, 0, none⟩))
    (hg : w.heap[g]? = some (.cells #[x, y] 27 (0, 0))) (hd : a.defers = []) (hR : R (.returned (.agg #[x, y])) w) : bodyPost Try.prog fn R .ret a w :=
  bodyPost_ret_by (results_cell_row h a.tmps w g _ _ _ _ hp hg Try.underlying27 rfl Try.sizeTen) hd hR

/-- Both cells of a tensor's block, stored anew. -/
theorem block_set2 {w : World} {g : Nat} {t : TypeId} {a b : Value} (h : w.heap[g]? = some (.cells #[a, b] t (0, 0))) (x y : Value) :
    ((w.setCell ⟨g, 0, none⟩ x).setCell ⟨g, 1, none⟩ y).heap[g]? = some (.cells #[x, y] t (0, 0)) :=
  heap_setCell_same _ g 1 _ _ y (heap_setCell_same w g 0 _ _ x h)

set_option maxRecDepth 100000 in
set_option maxHeartbeats 1600000 in
theorem refFill_any {w : World} {A : Option Addr} {n c : Nat} {s : List Int} (x : Int) (h : Ints w A n s) (hn : n ≤ 17592186044000) (hx : Fits x) :
    Calls Try.prog 9 #[.slice A n c, .int .i64 x] w fun e w' => (∃ v, e = .returned v ∧ OTen w' w.heap.size v s (List.replicate (Sh.size s).toNat x)) ∧ Below w.heap.size w w' := by
  have hZ : Below w.heap.size w (w.alloc (.cells #[.slice none 0 0, .slice none 0 0] 27)) := (Below.refl _ _).alloc (Nat.le_refl _) _
  have hzs : (w.alloc (.cells #[.slice none 0 0, .slice none 0 0] 27)).heap.size = w.heap.size + 1 := by simp
  have hzb := heap_alloc_new w (.cells #[.slice none 0 0, .slice none 0 0] 27)
  go_enter Try.func9, Try.ntmps9
  go_upto_region 1 with fail
  generalize w.alloc (.cells #[.slice none 0 0, .slice none 0 0] 27) = wz at *
  have hI := h.below hZ
  have E1 := hI.alloc (.cells #[] 3)
  have E2 := own_empty wz 3 (Nat.le_refl _)
  have HZS := Lib.hid hzs
  have HZB := Lib.hid hzb
  have HZ := Lib.hid hZ
  clear hzb hZ hI hzs
  go_wp2_with (at_builtin; refine wpList_append_ints rfl (.tmp 7) (.tmp 8) 23 3 rfl Try.underlying23 Try.infoInt wz.heap.size (.slice (some ⟨wz.heap.size, 0, none⟩) 0 0) 0 [] rfl E2 ?c1 A n c s rfl E1 ?c2 ?_)
  case c1 => simp
  case c2 => omega
  intro v1 w1 hO1 hg1 hat1
  clear hat1
  obtain ⟨A1, k1, rfl, hk1, _, _⟩ := hO1.form
  have hB1 : Below w.heap.size w w1 := HZ.out.trans (((Below.refl wz.heap.size wz).alloc (Nat.le_refl _) _ |>.grown hg1 (by simp) E2.block).mono (by rw [HZS.out]; omega))
  have hz1 := (((Below.refl wz.heap.size wz).alloc (Nat.le_refl _) _ |>.grown hg1 (by simp) E2.block).block w.heap.size (by rw [HZS.out]; omega)).trans HZB.out
  have hs1 : w.heap.size < w1.heap.size := by
    have := ((Below.refl wz.heap.size wz).alloc (Nat.le_refl _) (.cells #[] 3) |>.grown hg1 (by simp) E2.block).size
    rw [HZS.out] at this; omega
  obtain ⟨hsz0, hsz1⟩ := Sh.size_bd s
  obtain ⟨N, hN⟩ := Int.eq_ofNat_of_zero_le hsz0
  have HN := Lib.hid hN
  have HB1 := Lib.hid hB1
  have HZ1 := Lib.hid hz1
  have HO1 := Lib.hid hO1
  rw [hN] at hsz1
  have hg := heap_alloc_new w1 (.cells #[.slice A1 n k1, .slice none 0 0] 27)
  have hB2 := (Below.refl w1.heap.size w1).alloc (Nat.le_refl _) (.cells #[.slice A1 n k1, .slice none 0 0] 27)
  clear hN hsz0 hB1 hz1 hO1 E1 E2 hg1
  go_wp2_with fail
  go_loopw [6] (fun kv wr => ∃ (k : Nat) (B : Option Addr) (e : Nat), kv = .int .i64 k ∧ k ≤ N ∧ wr.heap[w1.heap.size]? = some (.cells #[.slice A1 n k1, .slice B k e] 27 (0, 0)) ∧ OwnS wr (w1.heap.size + 1) 2 (.slice B k e) k (List.replicate k x) ∧ Below w1.heap.size w1 wr) (fun kv _ => N - (intOf kv).toNat)
  case atStart => exact ⟨0, none, 0, rfl, by omega, hg, OwnS.nil_ _ _ _, hB2⟩
  case round =>
    clear hg hB2
    obtain ⟨k, B, e, rfl, hk, hg, hO, hB2⟩ := hrel
    have hI := (h.below HB1.out).below hB2
    have hc0 : wr.cell? ⟨w1.heap.size, 0, none⟩ = some (.slice A1 n k1) := by rw [cell_of_row _ _ 0 _ _ _ hg]; rfl
    have hc1 : wr.cell? ⟨w1.heap.size, 1, none⟩ = some (.slice B k e) := by rw [cell_of_row _ _ 1 _ _ _ hg]; rfl
    have hf0 := frozen_of_row _ _ 0 _ _ hg
    have hf1 := frozen_of_row _ _ 1 _ _ hg
    have hgl : w1.heap.size < wr.heap.size := block_lt_of_cell hc0
    have HG := Lib.hid hg
    have HO := Lib.hid hO
    have HB2 := Lib.hid hB2
    clear hg hO hB2
    by_cases hlt : k < N
    · go_wp2_with fail
      refine (refSize_any hI).mono ?_; rw [HN.out]; rintro e w' ⟨rfl, rfl⟩
      go_wp2_with (at_builtin; refine wpList_append_int rfl _ _ 25 2 rfl Try.underlying25 Try.infoI64 (w1.heap.size + 1) _ k _ rfl HO.out ?c1 x hx _ rfl ?c3 ?_)
      case c1 => omega
      case c3 => omega
      intro v' w3 hO3 hB3 hg3
      obtain ⟨B', e', rfl, he', _, _⟩ := hO3.form
      have hg3' : w3.heap[w1.heap.size]? = some (.cells #[.slice A1 n k1, .slice B k e] 27 (0, 0)) := (hB3.block _ (by omega)).trans HG.out
      have hc3 : w3.cell? ⟨w1.heap.size, 1, none⟩ = some (.slice B k e) := by rw [cell_of_row _ _ 1 _ _ _ hg3']; rfl
      have hf3 := frozen_of_row _ _ 1 _ _ hg3'
      have hg4 := Lib.hid (heap_setCell_same w3 w1.heap.size 1 _ _ (.slice B' (k + 1) e') hg3')
      have hO4 := Lib.hid (hO3.grown (grown_setCell w3 w1.heap.size 1 (.slice B' (k + 1) e')) (by omega))
      have hB4 := Lib.hid ((HB2.out.trans (hB3.mono (by omega))).setCell (p := ⟨w1.heap.size, 1, none⟩) (Nat.le_refl _) (.slice B' (k + 1) e'))
      clear hg3' hO3 hB3 hg3 hI hc0 hc1 hf0 hf1
      go_wp2
      go_roundw
      case rel => exact ⟨k + 1, B', e', by go_num, by omega, hg4.out, by rw [List.replicate_succ']; exact hO4.out, hB4.out⟩
      case measure => simp [intOf]; omega
    · have hz2 : wr.heap[w.heap.size]? = some (.cells #[.slice none 0 0, .slice none 0 0] 27 (0, 0)) := (HB2.out.block _ hs1).trans HZ1.out
      have hd0 : wr.cell? ⟨w.heap.size, 0, none⟩ = some (.slice none 0 0) := by rw [cell_of_row _ _ 0 _ _ _ hz2]; rfl
      have hd1 : wr.cell? ⟨w.heap.size, 1, none⟩ = some (.slice none 0 0) := by rw [cell_of_row _ _ 1 _ _ _ hz2]; rfl
      have hf2 := frozen_of_row _ _ 0 _ _ hz2
      have hf3 := frozen_of_row _ _ 1 _ _ hz2
      have HZ2 := Lib.hid hz2
      clear hz2
      go_wp2_with fail
      refine (refSize_any hI).mono ?_; rw [HN.out]; rintro e w' ⟨rfl, rfl⟩
      go_wp2
      refine ret_ten w.heap.size _ _ Try.results9 rfl (block_set2 HZ2.out _ _) rfl ?_
      have hk' : k = N := by omega
      have hrep : (Sh.size s).toNat = k := by rw [HN.out]; simp [hk']
      rw [hrep]
      have hgr := grown_trans (grown_setCell wr w.heap.size 0 (.slice A1 n k1)) (grown_setCell _ w.heap.size 1 (.slice B k e))
      have hO1' : OwnS wr (w.heap.size + 1) 3 (.slice A1 n k1) n s := by
        have := HO1.out.below HB2.out
        rw [HZS.out] at this
        exact this
      exact ⟨⟨_, rfl, _, _, n, k, rfl, (hO1'.grown hgr (by omega)).mono (by omega), (HO.out.grown hgr (by omega)).mono (by omega)⟩,
        ((HB1.out.trans (HB2.out.mono (by omega))).setCell (Nat.le_refl _) _).setCell (Nat.le_refl _) _⟩

/-- Right: a shape, and as many numbers as it has. -/
def tenRight (s d : List Int) : Bool := Sh.right s && decide ((d.length : Int) = Sh.size s)

set_option maxRecDepth 100000 in
set_option maxHeartbeats 1600000 in
theorem refTensor_any {w : World} {v : Value} {s d : List Int} (h : Ten w v s d) :
    Calls Try.prog 32 #[v] w fun e w' => e = .returned (.bool (tenRight s d)) ∧ Below w.heap.size w w' := by
  obtain ⟨A, n, c, B, m, e, rfl, hnc, hme, hI, hJ⟩ := h
  have hB := (Below.refl w.heap.size w).alloc (Nat.le_refl _) (.cells #[.slice A n c, .slice B m e] 27)
  have hI2 := hI.alloc (.cells #[.slice A n c, .slice B m e] 27)
  have hm := hJ.len
  have hme' := hJ.le
  cases hr : Sh.right s with
  | false =>
    have HX := Lib.hid (p := tenRight s d = false) (by simp [tenRight, hr])
    have c1 := fun k => (refRight_any (c := c) (hI2.drewN k))
    rw [hr] at c1
    have HM := Lib.hid hm
    have HR := Lib.hid hr
    have C1 := Lib.hid c1
    clear hm hr c1
    go_enter Try.func32, Try.ntmps32
    go_wp2
    go_quiet ((go_at_call 35; exact quietS (C1.out _)))
    go_wp2
    go_ret
    exact ⟨ret_bool HX.out.symm, below_drewN hB _⟩
  | true =>
    have HX := Lib.hid (p := tenRight s d = decide ((m : Int) = Sh.size s)) (by simp [tenRight, hr, hm])
    have c1 := fun k => (refRight_any (c := c) (hI2.drewN k))
    rw [hr] at c1
    have HM := Lib.hid hm
    have HR := Lib.hid hr
    have C1 := Lib.hid c1
    clear hm hr c1
    by_cases he : (m : Int) = Sh.size s
    · have he' : ((m : Int) == Sh.size s) = true := by simpa using he
      have HE := Lib.hid he
      clear he
      go_enter Try.func32, Try.ntmps32
      go_wp2
      go_quiet ((first | (go_at_call 35; exact quietS (C1.out _)) | (go_at_call 18; exact quietS (refSize_any (hI2.drewN _)))))
      go_wp2
      go_ret
      exact ⟨ret_bool (by rw [HX.out]; simp [HE.out]), below_drewN hB _⟩
    · have he' : ((m : Int) == Sh.size s) = false := by simpa using he
      have HE := Lib.hid he
      clear he
      go_enter Try.func32, Try.ntmps32
      go_wp2
      go_quiet ((first | (go_at_call 35; exact quietS (C1.out _)) | (go_at_call 18; exact quietS (refSize_any (hI2.drewN _)))))
      go_wp2
      go_ret
      exact ⟨ret_bool (by rw [HX.out]; simp [HE.out]), below_drewN hB _⟩

set_option maxRecDepth 100000 in
set_option maxHeartbeats 1600000 in
theorem refSame_any {w : World} {v u : Value} {s d t k : List Int} (h : Ten w v s d) (g : Ten w u t k) :
    Calls Try.prog 16 #[v, u] w fun e w' => e = .returned (.bool (s == t && d == k)) ∧ Below w.heap.size w w' := by
  obtain ⟨A, n, c, B, m, e, rfl, hnc, hme, hI, hJ⟩ := h
  obtain ⟨A', n', c', B', m', e', rfl, hnc', hme', hI', hJ'⟩ := g
  have hb := ((Below.refl w.heap.size w).alloc (Nat.le_refl _) (.cells #[.slice A n c, .slice B m e] 27)).alloc (by simp) (.cells #[.slice A' n' c', .slice B' m' e'] 27)
  have g0 := heap_alloc2_old w (.cells #[.slice A n c, .slice B m e] 27) (.cells #[.slice A' n' c', .slice B' m' e'] 27)
  have g1 := heap_alloc2_new w (.cells #[.slice A n c, .slice B m e] 27) (.cells #[.slice A' n' c', .slice B' m' e'] 27)
  have hm := hJ.len
  have hm' := hJ'.len
  have hle := hJ.le
  have hle' := hJ'.le
  have HM := Lib.hid hm
  have HM' := Lib.hid hm'
  clear hm hm'
  go_enter Try.func16, Try.ntmps16
  go_upto_region 1 with fail
  generalize (w.alloc (.cells #[.slice A n c, .slice B m e] 27)).alloc (.cells #[.slice A' n' c', .slice B' m' e'] 27) = W at *
  have a0 : W.cell? ⟨w.heap.size, 0, none⟩ = some (.slice A n c) := by rw [cell_of_row _ _ 0 _ _ _ g0]; rfl
  have a1 : W.cell? ⟨w.heap.size, 1, none⟩ = some (.slice B m e) := by rw [cell_of_row _ _ 1 _ _ _ g0]; rfl
  have b0 : W.cell? ⟨w.heap.size + 1, 0, none⟩ = some (.slice A' n' c') := by rw [cell_of_row _ _ 0 _ _ _ g1]; rfl
  have b1 : W.cell? ⟨w.heap.size + 1, 1, none⟩ = some (.slice B' m' e') := by rw [cell_of_row _ _ 1 _ _ _ g1]; rfl
  have HB := Lib.hid hb
  have hJ := hJ.below hb
  have hJ' := hJ'.below hb
  have hI := hI.below hb
  have hI' := hI'.below hb
  clear hb g0 g1
  go_wp2_with fail
  refine (refInts_any hI hI').mono ?_; rintro e2 w' ⟨rfl, q0, rfl⟩
  cases hs : (s == t) with
  | false =>
    have HS := Lib.hid hs
    clear hs
    go_wp2
    go_ret
    exact ⟨ret_bool (by rw [HS.out]; rfl), below_drewN HB.out _⟩
  | true =>
    have HS := Lib.hid hs
    clear hs
    by_cases hmm : m = m'
    · subst hmm
      go_wp2_with fail
      go_loopw [5] (fun kv wr => ∃ j : Nat, j ≤ m ∧ kv = .int .i64 j ∧ d.take j = k.take j ∧ ∃ q, wr = W.drewN q) (fun kv _ => m - (intOf kv).toNat)
      case atStart => exact ⟨0, Nat.zero_le _, rfl, rfl, q0, rfl⟩
      case round =>
        obtain ⟨j, hj, rfl, hd, q, rfl⟩ := hrel
        have HD := Lib.hid hd; clear hd
        by_cases hlt : j < m
        · obtain ⟨ad, x, rfl, hb1, hx, hc1, hf⟩ := hJ.at_ hlt
          obtain ⟨bd, y, rfl, hb2, hy, hc2, hf'⟩ := hJ'.at_ hlt
          have H := Lib.hid hx; clear hx
          have G := Lib.hid hy; clear hy
          by_cases hxy : x = y
          · subst hxy
            go_wp2
            go_quiet (fail)
            go_wp2
            go_roundw
            case rel => exact ⟨j + 1, by omega, by go_num, take_same H.out G.out HD.out, _, rfl⟩
            case measure => simp [intOf]; omega
          · have HX := Lib.hid (ne_of_at H.out G.out hxy)
            have hb : (x != y) = true := by simpa using hxy
            go_wp2
            go_quiet (fail)
            go_wp2
            go_ret
            exact ⟨ret_bool (by rw [HX.out]; simp), below_drewN (below_drewN HB.out _) _⟩
        · have HX := Lib.hid (eq_of_take HM.out HM'.out (by omega) HD.out)
          go_wp2
          go_ret
          exact ⟨ret_bool (by rw [HX.out, HS.out]; rfl), below_drewN HB.out _⟩
    · have HX := Lib.hid (p := (d == k) = false) (by rw [beq_eq_false_iff_ne]; rintro rfl; exact hmm (HM.out.symm.trans HM'.out))
      have hb : ((m : Int) != (m' : Int)) = true := by simp; omega
      go_wp2
      go_ret
      exact ⟨ret_bool (by rw [HX.out]; simp), below_drewN HB.out _⟩

theorem ty_ne : (3 : TypeId) ≠ 2 ∧ (3 : TypeId) ≠ 27 ∧ (2 : TypeId) ≠ 27 ∧ (33 : TypeId) ≠ 2 := by decide

set_option maxRecDepth 100000 in
set_option maxHeartbeats 1600000 in
theorem tapeTensor_any {w : World} {g : Nat} {A : Option Addr} {n c : Nat} {s : List Int} (hT : Tape w g) (h : Ints w A n s) (hn : n ≤ 17592186044000) :
    Calls Try.prog 12 #[.pointer (some ⟨g, 0, none⟩), .slice A n c] w fun e w' =>
      (∃ v d, e = .returned v ∧ OTen w' w.heap.size v s d ∧ d.length = (Sh.size s).toNat) ∧ Read w g w' := by
  have hgl := hT.lt
  have hZ := (Below.refl w.heap.size w).alloc (Nat.le_refl _) (.cells #[.slice none 0 0, .slice none 0 0] 27)
  have hzb := heap_alloc_new w (.cells #[.slice none 0 0, .slice none 0 0] 27)
  have hzs : (w.alloc (.cells #[.slice none 0 0, .slice none 0 0] 27)).heap.size = w.heap.size + 1 := by simp
  go_enter Try.func12, Try.ntmps12
  go_wp2_with fail
  generalize w.alloc (.cells #[.slice none 0 0, .slice none 0 0] 27) = wz at *
  refine (refFill_any 0 (h.below hZ) hn ⟨by omega, by omega⟩).mono ?_; rintro e w1 ⟨⟨v, rfl, vs, vd, ns, N, rfl, hOs, hOd⟩, hb1⟩
  have hNN := hOd.len
  rw [List.length_replicate] at hNN
  subst hNN
  generalize hNs : (Sh.size s).toNat = N at *
  have HNS := Lib.hid hNs
  clear hNs
  obtain ⟨A1, k1, rfl, hk1, _, _⟩ := hOs.form
  obtain ⟨B, k2, rfl, hk2, _, _⟩ := hOd.form
  have hB1 := hZ.trans (hb1.mono (by omega))
  have hz1 := (hb1.block w.heap.size (by omega)).trans hzb
  have hs1 : w.heap.size < w1.heap.size := by have := hb1.size; omega
  rw [hzs] at hOs hOd
  have hT1 := hT.below hB1
  have hgx := heap_alloc_new w1 (.cells #[.slice A1 ns k1, .slice B N k2] 27)
  have hb2 := (Below.refl w1.heap.size w1).alloc (Nat.le_refl _) (.cells #[.slice A1 ns k1, .slice B N k2] 27)
  have HZ1 := Lib.hid hz1
  have HB1 := Lib.hid hB1
  have hNle : N ≤ 9223372036854775807 := hOd.2.2
  have HI := Lib.hid hOs.len
  clear hz1 hB1 hzb hZ hzs hb1
  have hz2 := (hb2.block _ hs1).trans HZ1.out
  have hOs2 := hOs.below hb2
  have hOd2 := hOd.below hb2
  have hR2 : Read w g (w1.alloc (.cells #[.slice A1 ns k1, .slice B N k2] 27)) := ⟨hT1.below hb2, grown_of_below (HB1.out.trans (hb2.mono (by omega))) _⟩
  clear hb2 hOs hOd hT1 hT
  go_wp2_with fail
  generalize w1.alloc (.cells #[.slice A1 ns k1, .slice B N k2] 27) = w2 at *
  go_loopw [12] (fun kv wr => ∃ (j : Nat) (d : List Int), kv = .int .i64 j ∧ j ≤ N ∧ wr.heap[w1.heap.size]? = some (.cells #[.slice A1 ns k1, .slice B N k2] 27 (0, 0)) ∧ wr.heap[w.heap.size]? = some (.cells #[.slice none 0 0, .slice none 0 0] 27 (0, 0)) ∧ OwnS wr (w.heap.size + 1) 3 (.slice A1 ns k1) ns s ∧ OwnS wr (w.heap.size + 1) 2 (.slice B N k2) N d ∧ Read w g wr) (fun kv _ => N - (intOf kv).toNat)
  case atStart => exact ⟨0, _, rfl, by omega, hgx, hz2, hOs2, hOd2, hR2⟩
  case round =>
    clear hgx hz2 hOs2 hOd2 hR2
    obtain ⟨j, d, rfl, hj, hgx, hz2, hOs, hOd, hT, hG⟩ := hrel
    have hdl := hOd.len
    by_cases hlt : j < N
    · obtain ⟨gb, cb, hv, hO⟩ := hOd.own (by omega)
      injection hv with hv1 _ hv3
      subst hv1
      subst hv3
      have hgb := hO.base_.1
      have hcx : wr.cell? ⟨w1.heap.size, 1, none⟩ = some (.slice (some ⟨gb, 0, none⟩) N k2) := by rw [cell_of_row _ _ 1 _ _ _ hgx]; rfl
      have hxl : w1.heap.size < wr.heap.size := block_lt_of_cell hcx
      have hgr := hG.size
      have hTd : Tape wr.drew g := hT
      have HG := Lib.hid hG
      have HX := Lib.hid hgx
      have HZ := Lib.hid hz2
      have HS := Lib.hid hOs
      have HD := Lib.hid hOd
      have HL := Lib.hid hdl
      obtain ⟨dj, hdj0⟩ : ∃ x, d[j]? = some x := ⟨_, List.getElem?_eq_getElem (by omega : j < d.length)⟩
      have hdj := Lib.hid hdj0
      clear hdj0
      clear hG hgx hz2 hOs hOd hT hO hdl
      go_wp2_with fail
      go_region_held3 (fun w' => w'.cell? ⟨w1.heap.size, 1, none⟩ = some (.slice (some ⟨gb, 0, none⟩) N k2)) (go_keep)
        (first | (go_at_call 20; refine (number_any hTd).mono ?_; rintro e w3 ⟨⟨r, rfl, hf⟩, hT3, hG3⟩; have hc3 : w3.cell? ⟨w1.heap.size, 1, none⟩ = some (.slice (some ⟨gb, 0, none⟩) N k2) := hG3.cell hcx (by intro h'; injection h' with h'; simp at h'; omega); have hO3 : Own w3 (w.heap.size + 1) 2 gb N k2 d := HD.out.drew.grown hG3 (by omega); have hcs := hO3.cell hdj.out; have hfs := hO3.frozen j; have hne := ne_blk hO3 ((hG3.block _ hxl (by intro h'; injection h' with h'; omega)).trans HX.out) ty_ne.2.2.1; have hc4 : (w3.setCell ⟨gb, j, none⟩ (.int .i64 r)).cell? ⟨w1.heap.size, 1, none⟩ = some (.slice (some ⟨gb, 0, none⟩) N k2) := (World.cell?_setCell_other w3 _ _ _ (by intro h'; injection h' with h'; exact hne h')).trans hc3))
      have HG3 := Lib.hid (grown_trans HG.out (grown_trans (grown_drewN wr 1 _) hG3))
      have hx3 : w3.heap[w1.heap.size]? = some (.cells #[.slice A1 ns k1, .slice (some ⟨gb, 0, none⟩) N k2] 27 (0, 0)) := (hG3.block _ hxl (by intro h'; injection h' with h'; omega)).trans HX.out
      have hz3 : w3.heap[w.heap.size]? = some (.cells #[.slice none 0 0, .slice none 0 0] 27 (0, 0)) := (hG3.block _ (by simp; omega) (by intro h'; injection h' with h'; omega)).trans HZ.out
      have hS3 : OwnS w3 (w.heap.size + 1) 3 (.slice A1 ns k1) ns s := HS.out.drew.grown hG3 (by omega)
      obtain ⟨cs3, hb3⟩ := hO3.blk
      have hgw := grown_setCell w3 gb j (.int .i64 r)
      have hx4 := Lib.hid ((hgw.block _ (block_lt_of_cell hc3) (fun h' => ne_of_types hx3 hb3 ty_ne.2.2.1.symm (by injection h'))).trans hx3)
      have hz4 := Lib.hid ((hgw.block w.heap.size (by have : wr.heap.size ≤ w3.heap.size := hG3.size; omega) (fun h' => ne_of_types hz3 hb3 ty_ne.2.2.1.symm (by injection h'))).trans hz3)
      have hS4 := Lib.hid (hS3.grownNe hgw (hS3.apart hb3 ty_ne.1))
      have hO4 := Lib.hid (hO3.store j hf)
      have hT4 := Lib.hid (hT3.over (w' := w3.setCell ⟨gb, j, none⟩ (.int .i64 r)) ((Below.refl _ _).setCell (p := ⟨gb, j, none⟩) (by show g + 1 ≤ gb; omega) _))
      have hG4 := Lib.hid (grown_over HG3.out ((Below.refl w.heap.size w3).setCell (p := ⟨gb, j, none⟩) (by show w.heap.size ≤ gb; omega) (.int .i64 r)))
      clear hx3 hz3 hS3 hb3 hgw hG3 hcs hfs hO3 hT3 hc3 hc4 hne hcx hTd
      go_wp2
      go_roundw
      case rel => exact ⟨j + 1, _, by go_num, by omega, hx4.out, hz4.out, hS4.out, hO4.out, hT4.out, hG4.out⟩
      case measure => simp [intOf]; omega
    · have hcx : wr.cell? ⟨w1.heap.size, 1, none⟩ = some (.slice B N k2) := by rw [cell_of_row _ _ 1 _ _ _ hgx]; rfl
      have hcy : wr.cell? ⟨w1.heap.size, 0, none⟩ = some (.slice A1 ns k1) := by rw [cell_of_row _ _ 0 _ _ _ hgx]; rfl
      have hd0 : wr.cell? ⟨w.heap.size, 0, none⟩ = some (.slice none 0 0) := by rw [cell_of_row _ _ 0 _ _ _ hz2]; rfl
      have hd1 : wr.cell? ⟨w.heap.size, 1, none⟩ = some (.slice none 0 0) := by rw [cell_of_row _ _ 1 _ _ _ hz2]; rfl
      have hf2 := frozen_of_row _ _ 0 _ _ hz2
      have hf3 := frozen_of_row _ _ 1 _ _ hz2
      have HZ2 := Lib.hid hz2
      have HG := Lib.hid hG
      have HL := Lib.hid hdl
      clear hz2 hgx hG hdl
      go_wp2
      refine ret_ten w.heap.size _ _ Try.results12 rfl (block_set2 HZ2.out _ _) rfl ?_
      have hb := ((Below.refl w.heap.size wr).setCell (p := ⟨w.heap.size, 0, none⟩) (Nat.le_refl _) (.slice A1 ns k1)).setCell (p := ⟨w.heap.size, 1, none⟩) (Nat.le_refl _) (.slice B N k2)
      have hgr := grown_trans (grown_setCell wr w.heap.size 0 (.slice A1 ns k1)) (grown_setCell _ w.heap.size 1 (.slice B N k2))
      exact ⟨⟨_, d, rfl, ⟨_, _, ns, N, rfl, (hOs.grown hgr (by omega)).mono (by omega), (hOd.grown hgr (by omega)).mono (by omega)⟩, HL.out.trans HNS.out.symm⟩, hT.over (hb.mono (by omega)), grown_over HG.out hb⟩


theorem refSame_eq {w : World} {v u : Value} {s d : List Int} (h : Ten w v s d) (g : Ten w u s d) :
    Calls Try.prog 16 #[v, u] w fun e w' => e = .returned (.bool true) ∧ Below w.heap.size w w' :=
  (refSame_any h g).mono fun _ _ ⟨he, hw⟩ => ⟨by rw [he]; simp, hw⟩
/-- A cell that was there is as it was. -/
theorem box_keep {w w' : World} {g i : Nat} {x : Value} (hb : Below w.heap.size w w') (hc : w.cell? ⟨g, i, none⟩ = some x) : w'.cell? ⟨g, i, none⟩ = some x :=
  (hb.cell (p := ⟨g, i, none⟩) (block_lt_of_cell hc)).trans hc
theorem cell0_of {w : World} {g : Nat} {x y : Value} {t : TypeId} (h : w.heap[g]? = some (.cells #[x, y] t (0, 0))) : w.cell? ⟨g, 0, none⟩ = some x := by rw [cell_of_row _ _ 0 _ _ _ h]; rfl
theorem cell1_of {w : World} {g : Nat} {x y : Value} {t : TypeId} (h : w.heap[g]? = some (.cells #[x, y] t (0, 0))) : w.cell? ⟨g, 1, none⟩ = some y := by rw [cell_of_row _ _ 1 _ _ _ h]; rfl
/-- A tensor's value made of its two lists. -/
theorem ten_mk {w : World} {A B : Option Addr} {n c m e : Nat} {s d : List Int} (h : Ints w A n s) (hc : n ≤ c) (g : Ints w B m d) (he : m ≤ e) : Ten w (.agg #[.slice A n c, .slice B m e]) s d :=
  ⟨A, n, c, B, m, e, rfl, hc, he, h, g⟩
end Go.Proofs.Ytiigbkjkmfjhcaa
