/- Contracts of package tensor: Copy, Set, Fill, Iota. -/
import Derived.Test.YtmekkhegokcpoaaTen
namespace Go.Proofs.Ytmekkhegokcpoaa
open Go.RowKit

theorem alloc_keep {w : World} {a : Addr} {v : Value} (o : Obj) (h : w.cell? a = some v) : (w.alloc o).cell? a = some v := (World.cell?_alloc_lt w o a (World.block_lt_of_cell? w a h)).trans h

theorem Ints.lt {w : World} {A : Option Addr} {n : Nat} {xs : List Int} (h : Ints w A n xs) : ∀ ad, A = some ad → 0 < n → ad.block < w.heap.size := fun ad he hn => by
  obtain ⟨a', e', hb, _⟩ := h.2.2.2 hn
  rw [e'] at he
  injection he with he
  rw [← he]; exact hb

set_option maxHeartbeats 1600000 in
theorem tCopy_own {w : World} {v : Value} {s d : List Int} (h : Ten w v s d) (hs : s.length ≤ 17592186044000) (hd : d.length ≤ 17592186044000) :
    Calls Try.prog 27 #[v] w fun e w' => (∃ u ga gb n m, e = .returned u ∧ u = .agg #[.slice (some ⟨ga, 0, none⟩) n n, .slice (some ⟨gb, 0, none⟩) m m] ∧ Own w' w.heap.size 3 ga n n s ∧ Own w' w.heap.size 2 gb m m d) ∧ Below w.heap.size w w' := by
  obtain ⟨As, n, cs, Bd, m, cd, rfl, hsc, hdc, hS, hD⟩ := h
  have hDl := hD.lt
  rw [hS.len] at hs
  rw [hD.len] at hd
  have hm1 := run_make_noughts Try.underlying25 Try.infoInt (n := n) (by omega)
  have hm2 := run_make_noughts Try.underlying22 Try.infoI64 (n := m) (by omega)
  have hZ := ((Below.refl w.heap.size w).alloc (Nat.le_refl _) (.cells #[.slice As n cs, .slice Bd m cd] 27)).alloc (by simp) (.cells #[.slice none 0 0, .slice none 0 0] 27)
  have g0 := heap_alloc2_old w (.cells #[.slice As n cs, .slice Bd m cd] 27) (.cells #[.slice none 0 0, .slice none 0 0] 27)
  have g1 := heap_alloc2_new w (.cells #[.slice As n cs, .slice Bd m cd] 27) (.cells #[.slice none 0 0, .slice none 0 0] 27)
  have hzs : ((w.alloc (.cells #[.slice As n cs, .slice Bd m cd] 27)).alloc (.cells #[.slice none 0 0, .slice none 0 0] 27)).heap.size = w.heap.size + 1 + 1 := by simp
  go_enter Try.func27, Try.ntmps27
  go_upto_region 1 with fail
  generalize (w.alloc (.cells #[.slice As n cs, .slice Bd m cd] 27)).alloc (.cells #[.slice none 0 0, .slice none 0 0] 27) = W at *
  have a0 := cell0_of g0
  have a1 := cell1_of g0
  have hS := hS.below hZ
  have hD := hD.below hZ
  have HZS := Lib.hid hzs
  have HDL := Lib.hid hDl
  clear hDl
  have HG0 := Lib.hid g0
  have HG1 := Lib.hid g1
  have HZ := Lib.hid hZ
  clear hZ hzs g0 g1
  go_cut [3] (fun v wx => ∃ (g ga gb : Nat), v = .pointer (some ⟨g, 0, none⟩) ∧ W.heap.size ≤ g ∧ wx.heap[g]? = some (.cells #[.slice (some ⟨ga, 0, none⟩) n n, .slice (some ⟨gb, 0, none⟩) m m] 27 (0, 0)) ∧ Own wx W.heap.size 3 ga n n (List.replicate n 0) ∧ Own wx W.heap.size 2 gb m m (List.replicate m 0) ∧ Below W.heap.size W wx)
  case first =>
    have hl : w.heap.size < W.heap.size := block_lt_of_cell a0
    have q0 := fun o => alloc_keep o a0
    have q1 := fun o => alloc_keep o a1
    have q2 := fun o o' => alloc_keep o' (alloc_keep o a0)
    have q3 := fun o o' => alloc_keep o' (alloc_keep o a1)
    go_region_held3 (fun w' => w'.cell? ⟨w.heap.size, 0, none⟩ = some (.slice As n cs) ∧ w'.cell? ⟨w.heap.size, 1, none⟩ = some (.slice Bd m cd)) (go_keep) (fail)
    all_goals go_wp2_with fail
    all_goals go_meet
    all_goals exact ⟨_, _, _, rfl, by omega, (by first | exact alloc3_2 _ _ _ _ | exact alloc3_1 _ _ _ _ | exact alloc3_0 _ _ _ _), own_noughts (by first | exact alloc3_2 _ _ _ _ | exact alloc3_1 _ _ _ _ | exact alloc3_0 _ _ _ _) (by omega) (by omega), own_noughts (by first | exact alloc3_2 _ _ _ _ | exact alloc3_1 _ _ _ _ | exact alloc3_0 _ _ _ _) (by omega) (by omega), below3 _ _ _ _⟩
  case rest =>
    obtain ⟨g, ga, gb, rfl, hgW, hg, hA, hB, hb⟩ := hcut
    have t0 := cell0_of hg
    have t1 := cell1_of hg
    have a0 := box_keep hb a0
    have a1 := box_keep hb a1
    have hS := hS.below hb
    have hD := hD.below hb
    have hl : w.heap.size < W.heap.size := by have := HZS.out; omega
    have hz1 := (hb.block (w.heap.size + 1) (by have := HZS.out; omega)).trans HG1.out
    have hl2 : w.heap.size + 1 < W.heap.size := by have := HZS.out; omega
    have hgA := hA.base_
    have hgB := hB.base_
    have hgn := Ne.symm (ne_blk hA hg (by decide))
    have hgm := Ne.symm (ne_blk hB hg (by decide))
    have hab : ga ≠ gb := by obtain ⟨_, hc⟩ := hB.blk; exact ne_blk hA hc (by decide)
    have hgl : g < wc.heap.size := block_lt_of_cell t0
    have hbs := hb.size
    have HA := Lib.hid hA
    have HB := Lib.hid hB
    have HBb := Lib.hid hb
    have HGx := Lib.hid hg
    have HZ1 := Lib.hid hz1
    have HA0 := Lib.hid a0
    clear hg hA hB hb hz1
    obtain ⟨hgA0, hgA1⟩ := hgA
    obtain ⟨hgB0, hgB1⟩ := hgB
    go_wp2_with (first | ((with_reducible refine wpList_copy_ints rfl (.tmp 14) (.tmp 16) 25 25 rfl 3 Try.underlying25 Try.sizeInt HA.out rfl rfl hS ?_); intro w3 hO3 hg3; have hgx := (hg3.block g hgl (by simpa using hgn)).trans HGx.out; have t0 := cell0_of hgx; have t1 := cell1_of hgx; have a1' : w3.cell? ⟨w.heap.size, 1, none⟩ = some (.slice Bd m cd) := hg3.cell a1 (by simp; omega); have hz2 := (hg3.block (w.heap.size + 1) (by omega) (by simp; omega)).trans HZ1.out; have hD3 := hD.grown hg3 (fun ad he hn h' => by have := HDL.out ad he hn; injection h' with h'; omega); have hB3 := Lib.hid (p := Own w3 W.heap.size 2 gb m m (List.replicate m 0)) (OwnS.grownNe HB.out hg3 (fun k hk h' => hab (by simp [Value.ownBlock] at hk; injection h' with h'; omega))); have HZ2 := Lib.hid hz2; have HG3 := Lib.hid hg3; have HO3 := Lib.hid hO3; have HGY := Lib.hid hgx; clear hz2 hgx hg3 hO3) | ((with_reducible refine wpList_copy_ints rfl (.tmp 19) (.tmp 21) 22 22 rfl 2 Try.underlying22 Try.sizeInt64 hB3.out rfl rfl hD3 ?_); intro w4 hO4 hg4; have hgx := (hg4.block g (by have := HG3.out.size; omega) (by simpa using hgm)).trans HGY.out; have t0 := cell0_of hgx; have t1 := cell1_of hgx; have hz2 := (hg4.block (w.heap.size + 1) (by have := HG3.out.size; omega) (by simp; omega)).trans HZ2.out; have f0 := frozen_of_row _ _ 0 _ _ hz2; have f1 := frozen_of_row _ _ 1 _ _ hz2; have hd0 := cell0_of hz2; have hd1 := cell1_of hz2; have HZ4 := Lib.hid hz2; have HG4 := Lib.hid hg4; have HO4 := Lib.hid hO4; clear hz2 hgx hg4 hO4))
    refine ret_ten (w.heap.size + 1) _ _ Try.results27 rfl (block_set2 HZ4.out _ _) rfl ?_
    have hgr := grown_trans (grown_setCell w4 (w.heap.size + 1) 0 (.slice (some ⟨ga, 0, none⟩) n n)) (grown_setCell _ (w.heap.size + 1) 1 (.slice (some ⟨gb, 0, none⟩) m m))
    have hb1 := HZ.out.trans (HBb.out.mono (by omega))
    have hb3 := below_of_grown (B := w.heap.size) hb1 (by omega) HG3.out (by omega)
    have hb4 := below_of_grown (B := w.heap.size) hb3 (by have := HG3.out.size; omega) HG4.out (by omega)
    have hA' : OwnS w4 (w.heap.size + 1 + 1) 3 (.slice (some ⟨ga, 0, none⟩) n n) n s := by
      rw [← HZS.out]
      exact OwnS.grownNe HO3.out HG4.out (fun k hk h' => hab (by simp [Value.ownBlock] at hk; injection h' with h'; omega))
    have hB' : OwnS w4 (w.heap.size + 1 + 1) 2 (.slice (some ⟨gb, 0, none⟩) m m) m d := by rw [← HZS.out]; exact HO4.out
    exact ⟨⟨_, ga, gb, n, m, rfl, rfl, (hA'.grown hgr (by omega)).mono (by omega), (hB'.grown hgr (by omega)).mono (by omega)⟩, (hb4.setCell (by show w.heap.size ≤ w.heap.size + 1; omega) _).setCell (by show w.heap.size ≤ w.heap.size + 1; omega) _⟩
theorem tCopy_any {w : World} {v : Value} {s d : List Int} (h : Ten w v s d) (hs : s.length ≤ 17592186044000) (hd : d.length ≤ 17592186044000) :
    Calls Try.prog 27 #[v] w fun e w' => (∃ u, e = .returned u ∧ OTen w' w.heap.size u s d) ∧ Below w.heap.size w w' :=
  (tCopy_own h hs hd).mono fun _ _ ⟨⟨u, _, _, n, m, he, hu, hA, hB⟩, hb⟩ => ⟨⟨u, he, _, _, n, m, hu, hA, hB⟩, hb⟩
end Go.Proofs.Ytmekkhegokcpoaa
