/- The walk of the law FoldTells. -/
import Derived.Test.YtgdgpggicgfddaaL6Same
import Derived.Test.YtgdgpggicgfddaaSepB
import Derived.Test.YtgdgpggicgfddaaKitReg
import Derived.Test.YtgdgpggicgfddaaBox
namespace Go.Proofs.Ytgdgpggicgfddaa
open Go.RowKit

set_option maxRecDepth 100000 in
set_option maxHeartbeats 12800000 in
theorem ftells_walk {w : World} {A1 A2 A3 A4 : Option Addr} {n1 c1 n2 c2 n3 c3 n4 c4 : Nat} {x0 a rs rd : List Int} (how x y : Int) (h1 : Ints w A1 n1 x0) (h2 : Ints w A2 n2 a) (hh : Fits how) (k2 : n2 ≤ c2)
    (h3 : Ints w A3 n3 rs) (k3 : n3 ≤ c3) (h4 : Ints w A4 n4 rd) (k4 : n4 ≤ c4) :
    Calls Try.prog 4 #[.int .i64 how, .slice A1 n1 c1, .slice A2 n2 c2, .int .i64 x, .int .i64 y, .agg #[.slice A3 n3 c3, .slice A4 n4 c4]] w fun e w' => e = .returned (.bool true) ∧ Below w.heap.size w w' := by
  have q0 := Below.refl w.heap.size w
  have q1 := q0.alloc (by simp) (.cells #[.slice A3 n3 c3, .slice A4 n4 c4] 26)
  have hT := tape_new (c := c1) (h1.below q1)
  have hz1 : ((w.alloc (.cells #[.slice A3 n3 c3, .slice A4 n4 c4] 26))).heap.size = w.heap.size + 1 := by simp
  rw [hz1] at hT
  have s1 := Sep.startTape hz1 hT
  have hq0 := heap_alloc_new w (.cells #[.slice A3 n3 c3, .slice A4 n4 c4] 26)
  have H_h2 := Lib.hid (h2.below q1)
  have H_h3 := Lib.hid (h3.below q1)
  have H_h4 := Lib.hid (h4.below q1)
  clear hT
  go_enter Try.func4, Try.ntmps4
  go_upto_region 2 with fail
  generalize ((w.alloc (.cells #[.slice A3 n3 c3, .slice A4 n4 c4] 26))).alloc (.cells #[.slice A1 n1 c1, .int .i64 0] 33) = v at *
  generalize w.alloc (.cells #[.slice A3 n3 c3, .slice A4 n4 c4] 26) = wT at *
  have HQ := Lib.hid q1
  have HZ1 := Lib.hid hz1
  have H := Lib.hid s1
  generalize hgT : w.heap.size + 1 = gT at *
  clear s1 hz1 q0 q1 h1 h2 h3 h4
  have HR0 := Lib.hid (cell0_of hq0)
  have HR1 := Lib.hid (cell1_of hq0)
  have HHF := Lib.hid hh
  clear hq0 hh
  have C0 := tapeShape_any (H.out.tape 0 rfl)
  go_wp2_with fail
  refine C0.mono ?_; rintro e0 w0 ⟨⟨v, ns, s, rfl, hO, hns, hsh⟩, hR⟩
  obtain ⟨As, cs, rfl, hcs, hI, _⟩ := hO.form
  have Rs := Lib.hid (small_shape (by rw [hI.len]; exact hns) hsh)
  have Ds := Lib.hid hsh
  have Ls := Lib.hid hI.len
  replace H := Lib.hid (H.out.readOwn 0 rfl hR hO)
  clear C0 hO hI hsh hR
  replace H := Lib.hid (H.out.addNil 3)
  go_wp2_with fail
  go_loopw [26, 15] (fun kv lv wr => ∃ (i : Nat) (L : List Int) (lx : Value), lx = lv ∧ kv = .int .i64 i ∧ i ≤ ns ∧ L.length ≤ i ∧ Sep wT wr [.own 3 lx L.length L, .own 3 (.slice As ns cs) ns s, .tape gT]) (fun kv _ _ => ns - (intOf kv).toNat)
  case atStart => exact ⟨0, [], _, rfl, rfl, by omega, by simp, H.out⟩
  case round =>
    clear H
    obtain ⟨i, L, lx, rfl, rfl, hi, hL, hS⟩ := hrel
    have H := Lib.hid hS
    clear hS
    by_cases hli : i < ns
    · go_wp2_with fail
      refine (next_any 2 (H.out.tape 2 rfl) ⟨by omega, by omega⟩).mono ?_; rintro e5 w5 ⟨⟨r, rfl, hr0, hr1⟩, hR⟩
      replace H := Lib.hid (H.out.read 2 rfl hR)
      clear hR
      by_cases hrz : r = 0
      · have dr : (r == 0) = true := by simp [hrz]
        clear hrz
        go_wp2_with (at_builtin; refine wpList_append_sep rfl (.tmp 32) (.tmp 34) 22 3 rfl Try.underlying22 Try.infoInt H.out 0 rfl rfl (i : Int) ⟨by omega, by omega⟩ _ rfl ?c1 ?_)
        case c1 => omega
        intro v' w' h'
        have H8 := Lib.hid h'
        clear h'
        go_wp2
        go_roundw
        case rel => exact ⟨i + 1, L ++ [(i : Int)], _, rfl, by go_num, by omega, by rw [List.length_append, List.length_singleton]; omega, by rw [List.length_append, List.length_singleton]; exact H8.out⟩
        case measure => simp [intOf]; omega
      · have dr : (r == 0) = false := by simpa using hrz
        go_wp2
        go_roundw
        case rel => exact ⟨i + 1, L, _, rfl, by go_num, by omega, by omega, H.out⟩
        case measure => simp [intOf]; omega
    · have hin : ns = i := by omega
      subst hin
      obtain ⟨Al, cl, hv, hlcl, _, _⟩ := (H.out.ownS 0 rfl).form
      subst hv
      obtain ⟨nl, hnl⟩ : ∃ nl, L.length = nl := ⟨_, rfl⟩
      have hS := H.out
      rw [hnl] at hS hL hlcl ⊢
      replace H := Lib.hid hS
      clear hS hnl hli hi
      have C1 := tapeTensor_any (c := cs) (H.out.tape 2 rfl) ((H.out.ownInts 1 rfl).2.2) (by omega)
      go_wp2_with fail
      refine C1.mono ?_; rintro e1 w1 ⟨⟨v, dt, rfl, hOT, hdl⟩, hR⟩
      obtain ⟨vs, vd, nt, mt, rfl, ho1, ho2⟩ := hOT
      obtain ⟨St, kt, rfl, _, _, _⟩ := ho1.form
      obtain ⟨Dt, jt, rfl, _, _, _⟩ := ho2.form
      have Lt := Lib.hid hdl
      have h5 := H.out.readOwn2 2 rfl hR ho1 ho2 (Ne.symm ty_ne.1)
      have h6 := h5.allocBox w1.heap.size 26 [.slice St nt kt, .slice Dt mt jt] rfl
      clear C1 ho1 ho2 h5 hR hdl
      go_upto_region 11 with fail
      generalize w1.alloc (.cells #[.slice St nt kt, .slice Dt mt jt] 26) = v1 at *
      generalize w1.heap.size = gt at *
      replace H := Lib.hid h6
      clear h6
      go_cut [18] (fun q wx => ∃ k : Int, q = .int .i64 k ∧ v1 = wx)
      case first =>
        have e3 := and3 how
        have q1 := Int.emod_nonneg how (b := 4) (by omega)
        have q2 := Int.emod_lt_of_pos how (b := 4) (by omega)
        go_wp2_with fail
        go_meet
        exact ⟨1 + how % 4, rfl, rfl⟩
      case rest =>
        obtain ⟨k, rfl, rfl⟩ := hcut
        have t0 := H.out.cell 0 0 rfl rfl
        have t1 := H.out.cell 0 1 rfl rfl
        have C2 := l6same_any (ca := cl) k (ten_mk (H.out.ownInts 1 rfl).2.2 (H.out.ownInts 1 rfl).2.1 (H.out.ownInts 2 rfl).2.2 (H.out.ownInts 2 rfl).2.1) ((H.out.ownInts 3 rfl).2.2)
        go_wp2_with fail
        refine C2.mono ?_; rintro e2 w2 ⟨rfl, hb⟩
        replace H := Lib.hid (H.out.below hb)
        clear C2 hb t0 t1
        have t0 := H.out.cell 0 0 rfl rfl
        have t1 := H.out.cell 0 1 rfl rfl
        have C3 := l6same_any (ca := cl) how (ten_mk (H.out.ownInts 1 rfl).2.2 (H.out.ownInts 1 rfl).2.1 (H.out.ownInts 2 rfl).2.2 (H.out.ownInts 2 rfl).2.1) ((H.out.ownInts 3 rfl).2.2)
        go_wp2_with fail
        refine C3.mono ?_; rintro e3 w3 ⟨rfl, hb⟩
        replace H := Lib.hid (H.out.below hb)
        clear C3 hb t0 t1
        have t0 := H.out.cell 0 0 rfl rfl
        have t1 := H.out.cell 0 1 rfl rfl
        have C4 := l6same_any (ca := c2) k (ten_mk (H.out.ownInts 1 rfl).2.2 (H.out.ownInts 1 rfl).2.1 (H.out.ownInts 2 rfl).2.2 (H.out.ownInts 2 rfl).2.1) (H.out.oldI H_h2.out)
        go_wp2_with fail
        refine C4.mono ?_; rintro e4 w4 ⟨rfl, hb⟩
        replace H := Lib.hid (H.out.below hb)
        clear C4 hb t0 t1
        have r0 := H.out.oldCell (p := ⟨w.heap.size, 0, none⟩) (by have := HZ1.out; show w.heap.size < wT.heap.size; omega) HR0.out
        have r1 := H.out.oldCell (p := ⟨w.heap.size, 1, none⟩) (by have := HZ1.out; show w.heap.size < wT.heap.size; omega) HR1.out
        have C5 := l6same_any (ca := c2) k (H.out.oldTen (ten_mk H_h3.out k3 H_h4.out k4)) (H.out.oldI H_h2.out)
        go_wp2_with fail
        refine C5.mono ?_; rintro e5 w5 ⟨rfl, hb⟩
        replace H := Lib.hid (H.out.below hb)
        clear C5 hb 
        clear r0 r1
        obtain ⟨pk, hpk⟩ : ∃ r, putF k x y = r := ⟨_, rfl⟩
        have dpk : (pk == pk) = true := by simp
        have CC := fun w => fdStep_any k x y w
        simp only [hpk] at CC
        go_wp2_with fail
        refine (CC _).mono ?_; rintro e9 w9 ⟨rfl, rfl⟩
        clear CC
        have CC := fun w => ref6Put_any k x y w
        simp only [hpk] at CC
        go_wp2_with fail
        refine (CC _).mono ?_; rintro e9 w9 ⟨rfl, rfl⟩
        clear CC
        clear hpk
        obtain ⟨phow, hphow⟩ : ∃ r, putF how x y = r := ⟨_, rfl⟩
        have dphow : (phow == phow) = true := by simp
        have CC := fun w => fdStep_any how x y w
        simp only [hphow] at CC
        go_wp2_with fail
        refine (CC _).mono ?_; rintro e9 w9 ⟨rfl, rfl⟩
        clear CC
        have CC := fun w => ref6Put_any how x y w
        simp only [hphow] at CC
        go_wp2_with fail
        refine (CC _).mono ?_; rintro e9 w9 ⟨rfl, rfl⟩
        clear CC
        clear hphow
        go_wp2_with fail
        refine (l6known_any _).mono ?_; rintro e9 w9 ⟨rfl, hb⟩
        replace H := Lib.hid (H.out.below hb)
        clear hb
        go_wp2
        go_ret
        exact ⟨rfl, then_ HQ.out H.out.base⟩
end Go.Proofs.Ytgdgpggicgfddaa
