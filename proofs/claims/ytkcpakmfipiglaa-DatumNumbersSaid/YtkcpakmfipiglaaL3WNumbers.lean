/- DatumNumbers: the walk. -/
import Derived.Test.YtkcpakmfipiglaaL3Known
import Derived.Deep.DeepCutAuto
import Derived.Deep.RegionHeld3
import Derived.IntWalk
namespace Go.Proofs.Ytkcpakmfipiglaa
open Go.RowKit

theorem a1_0 (w : World) (a : Obj) : (w.alloc a).drew.heap[w.heap.size]? = some a := heap_alloc_new w a
theorem a2_0 (w : World) (a b : Obj) : ((w.alloc a).alloc b).drew.heap[w.heap.size]? = some a := heap_alloc2_old w a b
theorem a2_1 (w : World) (a b : Obj) : ((w.alloc a).alloc b).drew.heap[w.heap.size + 1]? = some b := heap_alloc2_new w a b
/-- A literal list that lies in a block. -/
theorem ints_at {w : World} {g n : Nat} {cs : Array Value} {e : TypeId} {xs : List Int} (hg : w.heap[g]? = some (.cells cs e (0, 0))) (hc : cs.toList = xs.map (Value.int .i64)) (h : litOk xs n = true) : Ints w (some ⟨g, 0, none⟩) n xs := by
  simp only [litOk, Bool.and_eq_true, decide_eq_true_eq, List.all_eq_true] at h
  refine ⟨h.1.2, by omega, fun x hx => h.1.1 x hx, fun _ => ⟨_, rfl, ?_, fun j x hj => ?_⟩⟩
  · rcases Nat.lt_or_ge g w.heap.size with hl | hl
    · exact hl
    · rw [Array.getElem?_eq_none hl] at hg; cases hg
  · rw [Addr.add_lit, Nat.zero_add, cell_of_row _ _ j _ _ _ hg, ← Array.getElem?_toList, hc, List.getElem?_map, hj]
    rfl
theorem ints_one {w : World} {g : Nat} {i : Int} {e : TypeId} (hg : w.heap[g]? = some (.cells #[.int .i64 i] e (0, 0))) (hf : Fits i) : Ints w (some ⟨g, 0, none⟩) 1 [i] := (own_one hg (Nat.zero_le _) hf).ints_of

theorem size_e {s : ByteArray} {k : Nat} (h : s.size ≤ 2 * k) : (s ++ ⟨#[195, 169]⟩).size ≤ 2 * (k + 1) := by
  have h2 : (⟨#[195, 169]⟩ : ByteArray).size = 2 := rfl
  simp only [ByteArray.size_append, h2]; omega

set_option maxRecDepth 100000 in
set_option maxHeartbeats 12800000 in
theorem dnumbers_walk (w : World) :
    Calls Try.prog 3 #[] w fun e w' => e = .returned (.bool true) ∧ Below w.heap.size w w' := by
  have hb0 := Below.refl w.heap.size w
  go_enter Try.func3, Try.ntmps3
  go_wp2_with fail
  go_loopw [1, 2] (fun v kv wr => ∃ (k : Nat) (s : ByteArray), kv = .int .i64 k ∧ v = .string s ∧ k ≤ 35 ∧ s.size ≤ 2 * k ∧ Below w.heap.size w wr) (fun _ kv _ => 35 - (intOf kv).toNat)
  case atStart => exact ⟨0, ⟨#[]⟩, rfl, rfl, by omega, by decide, hb0⟩
  case round =>
    clear hb0
    obtain ⟨k, s, rfl, rfl, hk, hs, hB⟩ := hrel
    have HB := Lib.hid hB
    clear hB
    by_cases hlt : k < 35
    · have hd1 : decide ((k : Int) < 35) = true := by simp; omega
      have hm1 := run_make_noughts Try.underlying23 Try.infoI64 (n := k) (by omega)
      have HF := Lib.hid (show Fits (k : Int) from ⟨by omega, by omega⟩)
      go_upto_region 5 with fail
      by_cases hk0 : (k : Int) < 1
      · have hm2 : ∀ w, (Instr.makeSlice 23 (.int .i64 1) (.int .i64 1)).run Try.prog w = .ok (.slice (some ⟨w.heap.size, 0, none⟩) 1 1) (w.alloc (.cells (noughts 1) 2)) := fun w => run_make_noughts Try.underlying23 Try.infoI64 (n := 1) (by omega) w
        have hgt : (1 : Int) > (k : Int) := hk0
        go_region_held3 (fun w' => True) (go_keep)
          ((go_at_call 7; refine (lall_any (k : Int) s HF.out (own_noughts (n := k) (base := 0) (by first | exact alloc3_2 _ _ _ _ | exact alloc3_1 _ _ _ _ | exact alloc3_0 _ _ _ _) (Nat.zero_le _) (by omega)).ints (by omega) (Nat.le_refl _) (by omega) (ten_mk (ints_one (by first | exact alloc3_2 _ _ _ _ | exact alloc3_1 _ _ _ _ | exact alloc3_0 _ _ _ _) HF.out) (Nat.le_refl _) (own_noughts (n := 1) (base := 0) (by first | exact alloc3_2 _ _ _ _ | exact alloc3_1 _ _ _ _ | exact alloc3_0 _ _ _ _) (Nat.zero_le _) (by omega)).ints (Nat.le_refl _))).mono ?_; rintro e w2 ⟨rfl, hb2⟩; have HB2 := Lib.hid (then_ (below3 _ _ _ _) hb2)))
        all_goals go_wp2_with fail
        all_goals exact ⟨⟨k + 1, _, by go_num, rfl, by omega, size_e hs, then_ HB.out HB2.out⟩, by simp [intOf]; omega⟩
      · have hgt : ¬ (1 : Int) > (k : Int) := hk0
        go_region_held3 (fun w' => True) (go_keep)
          ((go_at_call 7; refine (lall_any (k : Int) s HF.out (own_noughts (n := k) (base := 0) (by first | exact alloc3_2 _ _ _ _ | exact alloc3_1 _ _ _ _ | exact alloc3_0 _ _ _ _) (Nat.zero_le _) (by omega)).ints (by omega) (Nat.le_refl _) (by omega) (ten_mk (ints_one (by first | exact alloc3_2 _ _ _ _ | exact alloc3_1 _ _ _ _ | exact alloc3_0 _ _ _ _) HF.out) (Nat.le_refl _) (own_noughts (n := k) (base := 0) (by first | exact alloc3_2 _ _ _ _ | exact alloc3_1 _ _ _ _ | exact alloc3_0 _ _ _ _) (Nat.zero_le _) (by omega)).ints (Nat.le_refl _))).mono ?_; rintro e w2 ⟨rfl, hb2⟩; have HB2 := Lib.hid (then_ (below3 _ _ _ _) hb2)))
        all_goals go_wp2_with fail
        all_goals exact ⟨⟨k + 1, _, by go_num, rfl, by omega, size_e hs, then_ HB.out HB2.out⟩, by simp [intOf]; omega⟩
    · have hm6 : ∀ w, (Instr.makeSlice 24 (.int .i64 6) (.int .i64 6)).run Try.prog w = .ok (.slice (some ⟨w.heap.size, 0, none⟩) 6 6) (w.alloc (.cells (noughts 6) 3)) := fun w => run_make_noughts Try.underlying24 Try.infoInt (n := 6) (by omega) w
      have hd1 : decide ((k : Int) < 35) = false := by simp; omega
      have HF := Lib.hid (show Fits (-9223372036854775808) from ⟨by omega, by omega⟩)
      clear hs
      go_upto_region 8 with fail
      go_region_held3 (fun w' => True) (go_keep)
        (first
          | (go_at_call 8; refine (refFill_any 4 (ints_at (xs := [2, 3]) (by first | exact a2_1 _ _ _ | exact a2_0 _ _ _ | exact a1_0 _ _) (by rfl) (by decide)) (by omega) ⟨by omega, by omega⟩).mono ?_; rintro e x1 ⟨⟨vt, rfl, hvt⟩, hb1⟩; (first | (have L1 : x1.heap[wr.heap.size]? = some (.cells #[.int .i64 1, .int .i64 (-1)] 2 (0, 0)) := block_keep hb1 (a2_0 _ _ _); have HX1 := Lib.hid (((((Below.refl wr.heap.size wr).alloc (Nat.le_refl _) _).alloc (by simp) _).drew).trans (hb1.mono (by simp; omega)))) | (have L1 : x1.heap[wr.heap.size + 1]? = some (.cells #[.int .i64 1, .int .i64 (-1)] 2 (0, 0)) := block_keep hb1 (a2_1 _ _ _); have HX1 := Lib.hid (((((Below.refl wr.heap.size wr).alloc (Nat.le_refl _) _).alloc (by simp) _).drew).trans (hb1.mono (by simp; omega)))) | (have HX1 := Lib.hid ((((Below.refl wr.heap.size wr).alloc (Nat.le_refl _) _).drew).trans (hb1.mono (by simp))))))
          | (go_at_call 7; refine (lall_any (-9223372036854775808) _ HF.out (ints_at (xs := [1, -1]) (by first | exact L1 | exact heap_alloc_new _ _) (by rfl) (by decide)) (by omega) (Nat.le_refl _) (by decide) (by first | exact hvt.ten | exact hvt.ten.below ((Below.refl _ _).alloc (Nat.le_refl _) _))).mono ?_; rintro e x2 ⟨rfl, hb2⟩; (first | (have HX2 : Hid (Below wr.heap.size wr x2) := Lib.hid (HX1.out.trans (hb2.mono HX1.out.size))) | (have HX2 : Hid (Below wr.heap.size wr x2) := Lib.hid ((HX1.out.alloc HX1.out.size _).trans (hb2.mono (HX1.out.alloc HX1.out.size _).size)))))
          | (go_at_call 10; refine (dCount_any (n := 0) (ks := []) ⟨rfl, by omega, by simp⟩).mono ?_; rintro e x3 ⟨⟨u, rfl, hu⟩, hb3⟩; (first | (have LM : x3.heap[x2.heap.size]? = some (.cells (noughts 6) 3 (0, 0)) := block_keep hb3 (heap_alloc_new x2 _); have HX3 : Hid (Below wr.heap.size wr x3) := Lib.hid ((HX2.out.alloc HX2.out.size _).trans (hb3.mono (HX2.out.alloc HX2.out.size _).size))) | (have HX3 : Hid (Below wr.heap.size wr x3) := Lib.hid (HX2.out.trans (hb3.mono HX2.out.size)))); (obtain ⟨Au, cu, hvu, _, hIu, _⟩ := hu.form); subst hvu; have HIu := Lib.hid hIu; clear hu hIu)
          | (go_at_call 9; refine (bookSame_eq (by first | exact HIu.out | exact HIu.out.alloc _) (own_noughts (n := 6) (base := 0) (by first | exact LM | exact heap_alloc_new _ _) (Nat.zero_le _) (by omega)).ints).mono ?_; rintro e x4 ⟨rfl, q4, rfl⟩)
          | (go_at_call 11; refine (l3known_any _).mono ?_; rintro e x5 ⟨rfl, hb5⟩; (first | (have HX5 : Hid (Below wr.heap.size wr x5) := Lib.hid ((below_drewN HX3.out q4).trans (hb5.mono HX3.out.size)) ) | (have HX5 : Hid (Below wr.heap.size wr x5) := Lib.hid ((below_drewN (HX3.out.alloc HX3.out.size _) q4).trans (hb5.mono (HX3.out.alloc HX3.out.size _).size))))))
      all_goals go_wp2
      all_goals go_ret
      all_goals exact ⟨rfl, then_ HB.out HX5.out⟩
end Go.Proofs.Ytkcpakmfipiglaa
