/- Contracts of package tensor. -/
import Derived.Test.YtiigbkjkmfjhcaaTensor
import Derived.Laws.ResultCell
namespace Go.Proofs.Ytiigbkjkmfjhcaa
open Go.RowKit

theorem Try.sizeInt : (Try.prog.info? 3).map (·.size) = some 1 := by kernel_rfl
theorem Try.sizeInt64 : (Try.prog.info? 2).map (·.size) = some 1 := by kernel_rfl

/-- Which of a tensor's numbers stands at a place: -1 where there is none. -/
def tenIx (s d p : List Int) : Int := if tenRight s d then Sh.index s p else -1
def iotaErr (s : List Int) (a : Int) : Int := if Sh.right s then (if 0 ≤ a ∧ a < s.length then 0 else 1) else 13

theorem tenIx_lt {s d p : List Int} (h : 0 ≤ tenIx s d p) : (tenIx s d p).toNat < d.length := by
  unfold tenIx at h ⊢
  cases hr : tenRight s d with
  | false => rw [hr] at h; simp at h
  | true =>
    rw [hr] at h
    simp only [tenRight, Bool.and_eq_true, decide_eq_true_eq] at hr
    rw [if_pos rfl] at h ⊢
    unfold Sh.index at h ⊢
    split at h
    · rename_i hc
      rw [if_pos hc]
      simp only [Bool.and_eq_true, decide_eq_true_eq] at hc
      have := Sh.hor_bd hc.2 hc.1.2.symm
      have h2 := Sh.size_of hc.1.1
      omega
    · omega

/-- Whether there is such a number, and which it is. -/
def tenHas (s d p : List Int) : Bool := decide (0 ≤ tenIx s d p)
def tenGet (s d p : List Int) : Int := if 0 ≤ tenIx s d p then d.getD (tenIx s d p).toNat 0 else 0
theorem tenHas_true {s d p : List Int} (h : 0 ≤ tenIx s d p) : tenHas s d p = true := by simp [tenHas, h]
theorem tenHas_false {s d p : List Int} (h : ¬ 0 ≤ tenIx s d p) : tenHas s d p = false := by simp only [tenHas, h, decide_false]
theorem tenGet_true {s d p : List Int} {i : Nat} {x : Int} (h : tenIx s d p = i) (hx : d[i]? = some x) : tenGet s d p = x := by
  rw [tenGet, if_pos (by omega), h, Int.toNat_natCast, List.getD_eq_getElem?_getD, hx]; rfl
theorem tenGet_false {s d p : List Int} (h : ¬ 0 ≤ tenIx s d p) : tenGet s d p = 0 := by rw [tenGet, if_neg h]
/-- The tensor with a number set. -/
def setS (s d p : List Int) : List Int := if tenHas s d p then s else []
def setD (s d p : List Int) (x : Int) : List Int := if tenHas s d p then d.set (tenIx s d p).toNat x else []
theorem setS_true {s d p : List Int} (h : tenHas s d p = true) : setS s d p = s := by simp [setS, h]
theorem setS_false {s d p : List Int} (h : tenHas s d p = false) : setS s d p = [] := by simp [setS, h]
theorem setD_true {s d p : List Int} {x : Int} {i : Nat} (h : tenHas s d p = true) (hi : tenIx s d p = i) : setD s d p x = d.set i x := by simp [setD, h, hi]
theorem setD_false {s d p : List Int} {x : Int} (h : tenHas s d p = false) : setD s d p x = [] := by simp [setD, h]

/-- A call that gives a tensor and one word more hands back what its result's block holds, and that slot. -/
theorem ret_ten2 {fn : Func} {R : Ending → World → Prop} {a : Act} {w : World} {p u : Tmp} (g : Nat) (x y z : Value) (h : fn.results = #[.cell p 27, .tmp u]) (hp : a.tmps.getD p undef = .pointer (some ⟨g, 0, none⟩))
    (hz : a.tmps.getD u undef = z) (hg : w.heap[g]? = some (.cells #[x, y] 27 (0, 0))) (hd : a.defers = []) (hR : R (.returned (.tuple #[.agg #[x, y], z])) w) : bodyPost Try.prog fn R .ret a w := by
  refine bodyPost_ret_by ?_ hd hR
  have hp' : a.tmps[p]?.getD undef = .pointer (some ⟨g, 0, none⟩) := by simpa using hp
  have hz' : a.tmps[u]?.getD undef = z := by simpa using hz
  rw [results_cell_tmp h]
  simp [hp', hz', asAddr, run_loadVar_row w g _ 27 _ _ _ hg Try.underlying27 rfl Try.sizeTen, Result.andThen]

set_option maxRecDepth 100000 in
set_option maxHeartbeats 1600000 in
theorem tRight_any {w : World} {v : Value} {s d : List Int} (h : Ten w v s d) :
    Calls Try.prog 23 #[v] w fun e w' => e = .returned (.bool (tenRight s d)) ∧ Below w.heap.size w w' := by
  obtain ⟨A, n, c, B, m, e, rfl, hnc, hme, hI, hJ⟩ := h
  have hB := (Below.refl w.heap.size w).alloc (Nat.le_refl _) (.cells #[.slice A n c, .slice B m e] 27)
  have hI2 := hI.alloc (.cells #[.slice A n c, .slice B m e] 27)
  have hm := hJ.len
  have hme' := hJ.le
  cases hr : Sh.right s with
  | false =>
    have HX := Lib.hid (p := tenRight s d = false) (by simp [tenRight, hr])
    have c1 := fun k => (right_any (c := c) (hI2.drewN k))
    rw [hr] at c1
    have HM := Lib.hid hm
    have HR := Lib.hid hr
    have C1 := Lib.hid c1
    clear hm hr c1
    go_enter Try.func23, Try.ntmps23
    go_wp2
    go_quiet ((go_at_call 41; exact quietS (C1.out _)))
    go_wp2
    go_ret
    exact ⟨ret_bool HX.out.symm, below_drewN hB _⟩
  | true =>
    have HX := Lib.hid (p := tenRight s d = decide ((m : Int) = Sh.size s)) (by simp [tenRight, hr, hm])
    have c1 := fun k => (right_any (c := c) (hI2.drewN k))
    rw [hr] at c1
    have HM := Lib.hid hm
    have HR := Lib.hid hr
    have C1 := Lib.hid c1
    clear hm hr c1
    by_cases he : (m : Int) = Sh.size s
    · have he' : ((m : Int) == Sh.size s) = true := by simpa using he
      have HE := Lib.hid he
      clear he
      go_enter Try.func23, Try.ntmps23
      go_wp2
      go_quiet ((first | (go_at_call 41; exact quietS (C1.out _)) | (go_at_call 42; exact quietS (size_any (hI2.drewN _)))))
      go_wp2
      go_ret
      exact ⟨ret_bool (by rw [HX.out]; simp [HE.out]), below_drewN hB _⟩
    · have he' : ((m : Int) == Sh.size s) = false := by simpa using he
      have HE := Lib.hid he
      clear he
      go_enter Try.func23, Try.ntmps23
      go_wp2
      go_quiet ((first | (go_at_call 41; exact quietS (C1.out _)) | (go_at_call 42; exact quietS (size_any (hI2.drewN _)))))
      go_wp2
      go_ret
      exact ⟨ret_bool (by rw [HX.out]; simp [HE.out]), below_drewN hB _⟩




/-- make([]T, n): an exact world. -/
def noughts (n : Nat) : Array Value := (List.replicate n (Value.int .i64 0)).toArray
theorem madeCells_noughts (n : Nat) : madeCells #[Value.int .i64 0] n = noughts n := by
  apply Array.toList_inj.1
  rw [toList_madeCells_one]; simp [noughts]
theorem run_make_noughts {t e : TypeId} (ht : Try.prog.underlying t = some (.slice e)) (hinfo : (Try.prog.info? e).map (fun i => (i.zero, i.size, i.bytes)) = some (some (.int .i64 0), 1, 8))
    {n : Nat} (hn : n ≤ 17592186044000) (w : World) :
    (Instr.makeSlice t (.int .i64 n) (.int .i64 n)).run Try.prog w = .ok (.slice (some ⟨w.heap.size, 0, none⟩) n n) (w.alloc (.cells (noughts n) e)) := by
  obtain ⟨i, hi, hz0, hz1, hz2⟩ := info_parts hinfo
  have := run_make (P := Try.prog) w t e i (.int .i64 0) ht hi hz0 .i64 .i64 n n (by omega) (by omega) (by rw [hz2]; omega) (by omega)
  rw [this, hz1]
  simp only [Int.toNat_natCast, Nat.mul_one]
  rw [← madeCells_noughts]; rfl
theorem own_noughts {w : World} {g n base : Nat} {e : TypeId} (hg : w.heap[g]? = some (.cells (noughts n) e (0, 0))) (hb : base ≤ g) (hn : n ≤ 17592186044000) : Own w base e g n n (List.replicate n 0) := by
  refine ⟨⟨by simp, .inr ⟨g, n, noughts n, rfl, hb, hg, Nat.le_refl _, by unfold maxLen; omega, by simp [noughts], by simp [noughts]⟩⟩, ?_, by omega⟩
  intro x hx
  rw [List.eq_of_mem_replicate hx]
  exact ⟨by omega, by omega⟩

theorem size_alloc (w : World) (o : Obj) : (w.alloc o).heap.size = w.heap.size + 1 := by show (w.heap.push o).size = _; simp
theorem alloc3_0 (w : World) (a b c : Obj) : (((w.alloc a).alloc b).alloc c).drew.heap[w.heap.size]? = some a := by
  show (((w.alloc a).alloc b).alloc c).heap[w.heap.size]? = some a
  rw [heap_alloc_old _ c (by rw [size_alloc, size_alloc]; omega), heap_alloc_old _ b (by rw [size_alloc]; omega), heap_alloc_new]
theorem alloc3_1 (w : World) (a b c : Obj) : (((w.alloc a).alloc b).alloc c).drew.heap[w.heap.size + 1]? = some b := by
  show (((w.alloc a).alloc b).alloc c).heap[w.heap.size + 1]? = some b
  rw [heap_alloc_old _ c (by rw [size_alloc, size_alloc]; omega), ← size_alloc w a, heap_alloc_new]
theorem alloc3_2 (w : World) (a b c : Obj) : (((w.alloc a).alloc b).alloc c).drew.heap[w.heap.size + 1 + 1]? = some c := by
  show (((w.alloc a).alloc b).alloc c).heap[w.heap.size + 1 + 1]? = some c
  rw [← size_alloc w a, ← size_alloc _ b, heap_alloc_new]
theorem below3 (w : World) (a b c : Obj) : Below w.heap.size w (((w.alloc a).alloc b).alloc c).drew := ((((Below.refl _ _).alloc (Nat.le_refl _) _).alloc (by simp) _).alloc (by simp; omega) _).drew

set_option maxRecDepth 100000 in
set_option maxHeartbeats 1600000 in
theorem zeroes_any {w : World} {A : Option Addr} {n c : Nat} {s : List Int} (h : Ints w A n s) (hn : n ≤ 17592186044000) :
    Calls Try.prog 43 #[.slice A n c] w fun e w' => (∃ v, e = .returned v ∧ OTen w' w.heap.size v s (List.replicate (Sh.size s).toNat 0)) ∧ Below w.heap.size w w' := by
  obtain ⟨hsz0, hsz1⟩ := Sh.size_bd s
  obtain ⟨N, hN⟩ := Int.eq_ofNat_of_zero_le hsz0
  have HN := Lib.hid hN
  rw [hN] at hsz1
  have hm1 := run_make_noughts Try.underlying23 Try.infoInt (n := n) (by omega)
  have hm2 := run_make_noughts Try.underlying25 Try.infoI64 (n := N) (by omega)
  clear hN hsz0
  have hZ := (Below.refl w.heap.size w).alloc (Nat.le_refl _) (.cells #[.slice none 0 0, .slice none 0 0] 27)
  have hzb := heap_alloc_new w (.cells #[.slice none 0 0, .slice none 0 0] 27)
  have hzs : (w.alloc (.cells #[.slice none 0 0, .slice none 0 0] 27)).heap.size = w.heap.size + 1 := by simp
  go_enter Try.func43, Try.ntmps43
  go_upto_region 1 with fail
  generalize w.alloc (.cells #[.slice none 0 0, .slice none 0 0] 27) = W at *
  have hI := h.below hZ
  have HZS := Lib.hid hzs
  have HZB := Lib.hid hzb
  have HZ := Lib.hid hZ
  clear hzb hZ hzs h
  go_cut [3] (fun v wx => ∃ (g ga gb : Nat), v = .pointer (some ⟨g, 0, none⟩) ∧ W.heap.size ≤ g ∧ wx.heap[g]? = some (.cells #[.slice (some ⟨ga, 0, none⟩) n n, .slice (some ⟨gb, 0, none⟩) N N] 27 (0, 0)) ∧ Own wx W.heap.size 3 ga n n (List.replicate n 0) ∧ Own wx W.heap.size 2 gb N N (List.replicate N 0) ∧ Below W.heap.size W wx)
  case first =>
    go_region_held3 (fun w' => True) (go_keep) ((go_at_call 42; refine (size_any (by first | exact hI.drew | exact (hI.alloc _).drew | exact ((hI.alloc _).alloc _).drew)).mono ?_; rw [HN.out]; rintro e w' ⟨rfl, rfl⟩))
    all_goals go_wp2_with fail
    all_goals go_meet
    all_goals exact ⟨_, _, _, rfl, by omega, (by first | exact alloc3_2 _ _ _ _ | exact alloc3_1 _ _ _ _ | exact alloc3_0 _ _ _ _), own_noughts (by first | exact alloc3_2 _ _ _ _ | exact alloc3_1 _ _ _ _ | exact alloc3_0 _ _ _ _) (by omega) (by omega), own_noughts (by first | exact alloc3_2 _ _ _ _ | exact alloc3_1 _ _ _ _ | exact alloc3_0 _ _ _ _) (by omega) (by omega), below3 _ _ _ _⟩
  case rest =>
    obtain ⟨g, ga, gb, rfl, hgW, hg, hA, hB, hb⟩ := hcut
    have t0 := cell0_of hg
    have t1 := cell1_of hg
    have hI := hI.below hb
    have HA := Lib.hid hA
    have HB := Lib.hid hB
    have HBb := Lib.hid hb
    have HGx := Lib.hid hg
    clear hg hA hB hb
    have hgn := Ne.symm (ne_blk HA.out HGx.out (by decide))
    have hgl : g < wc.heap.size := block_lt_of_cell t0
    have hwl : w.heap.size < wc.heap.size := by have := HBb.out.size; have := HZS.out; omega
    have hz1 := (HBb.out.block w.heap.size (by have := HZS.out; omega)).trans HZB.out
    have HZ1 := Lib.hid hz1
    clear hz1
    go_wp2_with ((with_reducible refine wpList_copy_ints rfl (.tmp 12) (.tmp 13) 23 23 rfl 3 Try.underlying23 Try.sizeInt HA.out rfl rfl hI ?_); intro w3 hO3 hg3; have hgx := (hg3.block g hgl (by simpa using hgn)).trans HGx.out; have t0 := cell0_of hgx; have t1 := cell1_of hgx; have hz2 := (hg3.block w.heap.size hwl (by have := HA.out.base_.1; have := HZS.out; simp; omega)).trans HZ1.out; have f0 := frozen_of_row _ _ 0 _ _ hz2; have f1 := frozen_of_row _ _ 1 _ _ hz2; have hd0 := cell0_of hz2; have hd1 := cell1_of hz2; have HZ2 := Lib.hid hz2; have HG3 := Lib.hid hg3; have HO3 := Lib.hid hO3; clear hz2 hgx hg3 hO3 hgn)
    refine ret_ten w.heap.size _ _ Try.results43 rfl (block_set2 HZ2.out _ _) rfl ?_
    have hgr := grown_trans (grown_setCell w3 w.heap.size 0 (.slice (some ⟨ga, 0, none⟩) n n)) (grown_setCell _ w.heap.size 1 (.slice (some ⟨gb, 0, none⟩) N N))
    have hb3 := below_of_grown (B := w.heap.size) (HZ.out.trans (HBb.out.mono (by have := HZS.out; omega))) (by omega) HG3.out (by have := HA.out.base_.1; have := HZS.out; omega)
    have hA' : OwnS w3 (w.heap.size + 1) 3 (.slice (some ⟨ga, 0, none⟩) n n) n s := by rw [← HZS.out]; exact HO3.out
    have hB' : OwnS w3 (w.heap.size + 1) 2 (.slice (some ⟨gb, 0, none⟩) N N) N (List.replicate N 0) := by
      rw [← HZS.out]
      obtain ⟨cs, hcs⟩ := HA.out.blk
      exact OwnS.grownNe HB.out HG3.out (OwnS.apart HB.out hcs ty_ne.1.symm)
    rw [HN.out, Int.toNat_natCast]
    exact ⟨⟨_, rfl, _, _, n, N, rfl, (hA'.grown hgr (by omega)).mono (by omega), (hB'.grown hgr (by omega)).mono (by omega)⟩, (hb3.setCell (Nat.le_refl _) _).setCell (Nat.le_refl _) _⟩
end Go.Proofs.Ytiigbkjkmfjhcaa
