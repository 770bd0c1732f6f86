/- TensorNumbers: the walk. -/
import Derived.Test.YtdgckcckkfgooaaL2Same
import Derived.Test.YtdgckcckkfgooaaL2Known
import Derived.Deep.RegionHeld3
import Derived.IntWalk
namespace Go.Proofs.Ytdgckcckkfgooaa
open Go.RowKit

/-- Block g holds n slices of at most b numbers each. -/
def ListsB (w : World) (g n b : Nat) : Prop :=
  g < w.heap.size ∧ ∀ k, k < n → ∃ (A : Option Addr) (m c : Nat) (xs : List Int), w.cell? ⟨g, k, none⟩ = some (.slice A m c) ∧ m ≤ c ∧ m ≤ b ∧ Ints w A m xs
theorem ListsB.below {w w' : World} {g n b : Nat} (h : ListsB w g n b) (hb : Below w.heap.size w w') : ListsB w' g n b :=
  ⟨Nat.lt_of_lt_of_le h.1 hb.size, fun k hk => by
    obtain ⟨A, m, c, xs, hc, hm, hl, hI⟩ := h.2 k hk
    exact ⟨A, m, c, xs, (hb.cell (p := ⟨g, k, none⟩) h.1).trans hc, hm, hl, hI.below hb⟩⟩
def AListB (w : World) (b : Nat) (v : Value) : Prop := ∃ (A : Option Addr) (m c : Nat) (xs : List Int), v = .slice A m c ∧ m ≤ c ∧ m ≤ b ∧ Ints w A m xs
theorem listsB_new (w : World) (cs : Array Value) (t : TypeId) (n b : Nat) (hn : n = cs.size) (h : ∀ v ∈ cs.toList, AListB w b v) : ListsB (w.alloc (.cells cs t)) w.heap.size n b := by
  subst hn
  refine ⟨by simp, fun k hk => ?_⟩
  obtain ⟨A, m, c, xs, hv, hm, hl, hI⟩ := h cs[k] (by simp)
  refine ⟨A, m, c, xs, ?_, hm, hl, hI.alloc _⟩
  rw [World.cell?_alloc_at cs t _ k rfl, Array.getElem?_eq_getElem hk, hv]
theorem alistB {w : World} {b : Nat} {A : Option Addr} {m c : Nat} {xs : List Int} (h : Ints w A m xs) (hm : m ≤ c) (hl : m ≤ b) : AListB w b (.slice A m c) := ⟨A, m, c, xs, rfl, hm, hl, h⟩
/-- A literal list, behind k more objects. -/
theorem fits_small {xs : List Int} (h : xs.all (fun x => decide (-9223372036854775808 ≤ x) && decide (x ≤ 9223372036854775807)) = true) : ∀ x ∈ xs, Fits x := by
  intro x hx
  rw [List.all_eq_true] at h
  have := h x hx
  simp only [Bool.and_eq_true, decide_eq_true_eq] at this
  exact this

/-- The literal lists of the sentence, and the list of them. -/
def nine (w : World) : World := (((((((((w.alloc (.cells #[.int .i64 3] 3)).alloc (.cells #[.int .i64 2, .int .i64 3] 3)).alloc (.cells #[.int .i64 0] 3)).alloc (.cells #[.int .i64 2, .int .i64 0, .int .i64 3] 3)).alloc (.cells #[.int .i64 2, .int .i64 2, .int .i64 2, .int .i64 2] 3)).alloc (.cells #[.int .i64 33] 3)).alloc (.cells #[.int .i64 32, .int .i64 32, .int .i64 5] 3)).alloc (.cells #[.int .i64 (-1)] 3)).alloc (.cells #[.int .i64 1, .int .i64 1, .int .i64 1, .int .i64 1, .int .i64 1] 3)).alloc (.cells #[.slice none 0 0, .slice (some ⟨w.heap.size, 0, none⟩) 1 1, .slice (some ⟨w.heap.size + 1, 0, none⟩) 2 2, .slice (some ⟨w.heap.size + 2, 0, none⟩) 1 1, .slice (some ⟨w.heap.size + 3, 0, none⟩) 3 3, .slice (some ⟨w.heap.size + 4, 0, none⟩) 4 4, .slice (some ⟨w.heap.size + 5, 0, none⟩) 1 1, .slice (some ⟨w.heap.size + 6, 0, none⟩) 3 3, .slice (some ⟨w.heap.size + 7, 0, none⟩) 1 1, .slice (some ⟨w.heap.size + 8, 0, none⟩) 5 5] 22)
theorem nine_lists (w : World) : ListsB (nine w) (w.heap.size + 9) 10 5 := by
  have h0 := ints_fresh w 3 #[.int .i64 3] [3] rfl (fits_small (by decide)) 1 rfl (by omega)
  have h1 := ints_fresh (w.alloc (.cells #[.int .i64 3] 3)) 3 #[.int .i64 2, .int .i64 3] [2, 3] rfl (fits_small (by decide)) 2 rfl (by omega)
  have h2 := ints_fresh ((w.alloc (.cells #[.int .i64 3] 3)).alloc (.cells #[.int .i64 2, .int .i64 3] 3)) 3 #[.int .i64 0] [0] rfl (fits_small (by decide)) 1 rfl (by omega)
  have h3 := ints_fresh (((w.alloc (.cells #[.int .i64 3] 3)).alloc (.cells #[.int .i64 2, .int .i64 3] 3)).alloc (.cells #[.int .i64 0] 3)) 3 #[.int .i64 2, .int .i64 0, .int .i64 3] [2, 0, 3] rfl (fits_small (by decide)) 3 rfl (by omega)
  have h4 := ints_fresh ((((w.alloc (.cells #[.int .i64 3] 3)).alloc (.cells #[.int .i64 2, .int .i64 3] 3)).alloc (.cells #[.int .i64 0] 3)).alloc (.cells #[.int .i64 2, .int .i64 0, .int .i64 3] 3)) 3 #[.int .i64 2, .int .i64 2, .int .i64 2, .int .i64 2] [2, 2, 2, 2] rfl (fits_small (by decide)) 4 rfl (by omega)
  have h5 := ints_fresh (((((w.alloc (.cells #[.int .i64 3] 3)).alloc (.cells #[.int .i64 2, .int .i64 3] 3)).alloc (.cells #[.int .i64 0] 3)).alloc (.cells #[.int .i64 2, .int .i64 0, .int .i64 3] 3)).alloc (.cells #[.int .i64 2, .int .i64 2, .int .i64 2, .int .i64 2] 3)) 3 #[.int .i64 33] [33] rfl (fits_small (by decide)) 1 rfl (by omega)
  have h6 := ints_fresh ((((((w.alloc (.cells #[.int .i64 3] 3)).alloc (.cells #[.int .i64 2, .int .i64 3] 3)).alloc (.cells #[.int .i64 0] 3)).alloc (.cells #[.int .i64 2, .int .i64 0, .int .i64 3] 3)).alloc (.cells #[.int .i64 2, .int .i64 2, .int .i64 2, .int .i64 2] 3)).alloc (.cells #[.int .i64 33] 3)) 3 #[.int .i64 32, .int .i64 32, .int .i64 5] [32, 32, 5] rfl (fits_small (by decide)) 3 rfl (by omega)
  have h7 := ints_fresh (((((((w.alloc (.cells #[.int .i64 3] 3)).alloc (.cells #[.int .i64 2, .int .i64 3] 3)).alloc (.cells #[.int .i64 0] 3)).alloc (.cells #[.int .i64 2, .int .i64 0, .int .i64 3] 3)).alloc (.cells #[.int .i64 2, .int .i64 2, .int .i64 2, .int .i64 2] 3)).alloc (.cells #[.int .i64 33] 3)).alloc (.cells #[.int .i64 32, .int .i64 32, .int .i64 5] 3)) 3 #[.int .i64 (-1)] [-1] rfl (fits_small (by decide)) 1 rfl (by omega)
  have h8 := ints_fresh ((((((((w.alloc (.cells #[.int .i64 3] 3)).alloc (.cells #[.int .i64 2, .int .i64 3] 3)).alloc (.cells #[.int .i64 0] 3)).alloc (.cells #[.int .i64 2, .int .i64 0, .int .i64 3] 3)).alloc (.cells #[.int .i64 2, .int .i64 2, .int .i64 2, .int .i64 2] 3)).alloc (.cells #[.int .i64 33] 3)).alloc (.cells #[.int .i64 32, .int .i64 32, .int .i64 5] 3)).alloc (.cells #[.int .i64 (-1)] 3)) 3 #[.int .i64 1, .int .i64 1, .int .i64 1, .int .i64 1, .int .i64 1] [1, 1, 1, 1, 1] rfl (fits_small (by decide)) 5 rfl (by omega)
  have g0 := alistB (b := 5) (c := 1) ((((((((h0.alloc (.cells #[.int .i64 2, .int .i64 3] 3)).alloc (.cells #[.int .i64 0] 3)).alloc (.cells #[.int .i64 2, .int .i64 0, .int .i64 3] 3)).alloc (.cells #[.int .i64 2, .int .i64 2, .int .i64 2, .int .i64 2] 3)).alloc (.cells #[.int .i64 33] 3)).alloc (.cells #[.int .i64 32, .int .i64 32, .int .i64 5] 3)).alloc (.cells #[.int .i64 (-1)] 3)).alloc (.cells #[.int .i64 1, .int .i64 1, .int .i64 1, .int .i64 1, .int .i64 1] 3)) (by omega) (by omega)
  have g1 := alistB (b := 5) (c := 2) (((((((h1.alloc (.cells #[.int .i64 0] 3)).alloc (.cells #[.int .i64 2, .int .i64 0, .int .i64 3] 3)).alloc (.cells #[.int .i64 2, .int .i64 2, .int .i64 2, .int .i64 2] 3)).alloc (.cells #[.int .i64 33] 3)).alloc (.cells #[.int .i64 32, .int .i64 32, .int .i64 5] 3)).alloc (.cells #[.int .i64 (-1)] 3)).alloc (.cells #[.int .i64 1, .int .i64 1, .int .i64 1, .int .i64 1, .int .i64 1] 3)) (by omega) (by omega)
  have g2 := alistB (b := 5) (c := 1) ((((((h2.alloc (.cells #[.int .i64 2, .int .i64 0, .int .i64 3] 3)).alloc (.cells #[.int .i64 2, .int .i64 2, .int .i64 2, .int .i64 2] 3)).alloc (.cells #[.int .i64 33] 3)).alloc (.cells #[.int .i64 32, .int .i64 32, .int .i64 5] 3)).alloc (.cells #[.int .i64 (-1)] 3)).alloc (.cells #[.int .i64 1, .int .i64 1, .int .i64 1, .int .i64 1, .int .i64 1] 3)) (by omega) (by omega)
  have g3 := alistB (b := 5) (c := 3) (((((h3.alloc (.cells #[.int .i64 2, .int .i64 2, .int .i64 2, .int .i64 2] 3)).alloc (.cells #[.int .i64 33] 3)).alloc (.cells #[.int .i64 32, .int .i64 32, .int .i64 5] 3)).alloc (.cells #[.int .i64 (-1)] 3)).alloc (.cells #[.int .i64 1, .int .i64 1, .int .i64 1, .int .i64 1, .int .i64 1] 3)) (by omega) (by omega)
  have g4 := alistB (b := 5) (c := 4) ((((h4.alloc (.cells #[.int .i64 33] 3)).alloc (.cells #[.int .i64 32, .int .i64 32, .int .i64 5] 3)).alloc (.cells #[.int .i64 (-1)] 3)).alloc (.cells #[.int .i64 1, .int .i64 1, .int .i64 1, .int .i64 1, .int .i64 1] 3)) (by omega) (by omega)
  have g5 := alistB (b := 5) (c := 1) (((h5.alloc (.cells #[.int .i64 32, .int .i64 32, .int .i64 5] 3)).alloc (.cells #[.int .i64 (-1)] 3)).alloc (.cells #[.int .i64 1, .int .i64 1, .int .i64 1, .int .i64 1, .int .i64 1] 3)) (by omega) (by omega)
  have g6 := alistB (b := 5) (c := 3) ((h6.alloc (.cells #[.int .i64 (-1)] 3)).alloc (.cells #[.int .i64 1, .int .i64 1, .int .i64 1, .int .i64 1, .int .i64 1] 3)) (by omega) (by omega)
  have g7 := alistB (b := 5) (c := 1) (h7.alloc (.cells #[.int .i64 1, .int .i64 1, .int .i64 1, .int .i64 1, .int .i64 1] 3)) (by omega) (by omega)
  have g8 := alistB (b := 5) (c := 5) h8 (by omega) (by omega)
  simp only [World.size_alloc, Nat.add_assoc, Nat.reduceAdd] at g0 g1 g2 g3 g4 g5 g6 g7 g8
  have := listsB_new (((((((((w.alloc (.cells #[.int .i64 3] 3)).alloc (.cells #[.int .i64 2, .int .i64 3] 3)).alloc (.cells #[.int .i64 0] 3)).alloc (.cells #[.int .i64 2, .int .i64 0, .int .i64 3] 3)).alloc (.cells #[.int .i64 2, .int .i64 2, .int .i64 2, .int .i64 2] 3)).alloc (.cells #[.int .i64 33] 3)).alloc (.cells #[.int .i64 32, .int .i64 32, .int .i64 5] 3)).alloc (.cells #[.int .i64 (-1)] 3)).alloc (.cells #[.int .i64 1, .int .i64 1, .int .i64 1, .int .i64 1, .int .i64 1] 3)) #[.slice none 0 0, .slice (some ⟨w.heap.size, 0, none⟩) 1 1, .slice (some ⟨w.heap.size + 1, 0, none⟩) 2 2, .slice (some ⟨w.heap.size + 2, 0, none⟩) 1 1, .slice (some ⟨w.heap.size + 3, 0, none⟩) 3 3, .slice (some ⟨w.heap.size + 4, 0, none⟩) 4 4, .slice (some ⟨w.heap.size + 5, 0, none⟩) 1 1, .slice (some ⟨w.heap.size + 6, 0, none⟩) 3 3, .slice (some ⟨w.heap.size + 7, 0, none⟩) 1 1, .slice (some ⟨w.heap.size + 8, 0, none⟩) 5 5] 22 10 5 rfl (by
    intro v hv
    simp only [List.mem_cons, List.not_mem_nil, or_false] at hv
    rcases hv with rfl | rfl | rfl | rfl | rfl | rfl | rfl | rfl | rfl | rfl
    · exact alistB (Ints.nil_ _ _) (by omega) (by omega)
    all_goals assumption)
  simpa [nine, World.size_alloc] using this
theorem below_nine (w : World) : Below w.heap.size w (nine w) :=
  ((((((((((Below.refl _ _).alloc (Nat.le_refl _) _).alloc (by simp) _).alloc (by simp <;> omega) _).alloc (by simp <;> omega) _).alloc (by simp <;> omega) _).alloc (by simp <;> omega) _).alloc (by simp <;> omega) _).alloc (by simp <;> omega) _).alloc (by simp <;> omega) _).alloc (by simp <;> omega) _

theorem own_lit {w : World} {g : Nat} {i : Int} {e : TypeId} (hg : w.heap[g]? = some (.cells #[.int .i64 i] e (0, 0))) (hf : Fits i) : Ints w (some ⟨g, 0, none⟩) 1 [i] :=
  ⟨rfl, by omega, (by intro x hx; simp at hx; subst hx; exact hf), fun _ => ⟨_, rfl, (by
    rcases Nat.lt_or_ge g w.heap.size with hl | hl
    · exact hl
    · rw [Array.getElem?_eq_none hl] at hg; cases hg), (by
    intro j x hj
    cases j with
    | zero => simp at hj; subst hj; rw [Addr.add_lit, cell_of_row _ _ 0 _ _ _ hg]; rfl
    | succ j => simp at hj)⟩⟩

set_option maxRecDepth 100000 in
set_option maxHeartbeats 12800000 in
theorem numbers2_walk (w : World) :
    Calls Try.prog 3 #[] w fun e w' => e = .returned (.bool true) ∧ Below w.heap.size w w' := by
  have hL := nine_lists w
  have hB := below_nine w
  go_enter Try.func3, Try.ntmps3
  go_wp2_with fail
  change Code.wp _ _ _ _ (nine w)
  generalize nine w = w0 at *
  go_loopw [17] (fun kv wr => ∃ k : Nat, kv = .int .i64 k ∧ k ≤ 10 ∧ ListsB wr (w.heap.size + 9) 10 5 ∧ Below w.heap.size w wr) (fun kv _ => 10 - (intOf kv).toNat)
  case atStart => exact ⟨0, rfl, by omega, hL, hB⟩
  case round =>
    clear hL hB
    obtain ⟨k, rfl, hk, hL, hB⟩ := hrel
    obtain ⟨w1, rfl⟩ : ∃ w1 : World, w1 = wr := ⟨_, rfl⟩
    have HB := Lib.hid hB
    clear hB
    by_cases hlt : k < 10
    · obtain ⟨A, m, c, xs, hcl, hmc, hm5, hI⟩ := hL.2 k hlt
      have hd1 : decide ((k : Int) < 10) = true := by simp; omega
      have hb2 := Below.refl w1.heap.size w1
      have HL := Lib.hid hL
      have HI := Lib.hid hI
      clear hL hI
      go_wp2_with fail
      clear hcl
      go_loopw [3] (fun kv wx => ∃ a : Int, kv = .int .i64 a ∧ -1 ≤ a ∧ a ≤ 5 ∧ Below w1.heap.size w1 wx) (fun kv _ => (5 - intOf kv).toNat)
      case atStart => exact ⟨-1, rfl, by omega, by omega, hb2⟩
      case round =>
        clear hb2
        obtain ⟨a, rfl, hi1, hi2, hb2⟩ := hrel
        obtain ⟨w2, rfl⟩ : ∃ w2 : World, w2 = wr := ⟨_, rfl⟩
        have HB2 := Lib.hid hb2
        clear hb2
        by_cases hal : a < 5
        · have hd2 : decide (a < 5) = true := by simpa using hal
          have hI2 := HI.out.below HB2.out
          go_wp2_with fail
          refine (refFill_any (c := c) 7 hI2 (by omega) ⟨by omega, by omega⟩).mono ?_; rintro e w3 ⟨⟨vt, rfl, hvt⟩, hb3⟩
          obtain ⟨At, nt, ct, Bt, mt, et, rfl, hnt, hmt, _, _⟩ := hvt.ten
          have hgt := heap_alloc_new w3 (.cells #[.slice At nt ct, .slice Bt mt et] 26)
          have hxt := (Below.refl w3.heap.size w3).alloc (Nat.le_refl _) (.cells #[.slice At nt ct, .slice Bt mt et] 26)
          have hb4 := then_ hb3 hxt
          have HI4 := Lib.hid (hI2.below hb4)
          have HT4 := Lib.hid (hvt.ten.below hxt)
          have HB4 := Lib.hid (then_ HB2.out hb4)
          have hsz := Sh.size_bd xs
          have HSZ := Lib.hid hsz
          clear hb3 hxt hb4 hvt hI2 hsz
          go_upto_region 8 with fail
          generalize w3.alloc (.cells #[.slice At nt ct, .slice Bt mt et] 26) = w4 at *
          have HT0 := Lib.hid (cell0_of hgt)
          have HT1 := Lib.hid (cell1_of hgt)
          generalize w3.heap.size = gt at *
          clear hgt
          have hb5 := Below.refl w4.heap.size w4
          go_wp2_with fail
          go_loopw [5] (fun kv wx => ∃ i : Int, kv = .int .i64 i ∧ -1 ≤ i ∧ i ≤ 17 ∧ Below w4.heap.size w4 wx) (fun kv _ => (17 - intOf kv).toNat)
          case atStart => exact ⟨-1, rfl, by omega, by omega, hb5⟩
          case round =>
            clear hb5
            obtain ⟨i, rfl, hj1, hj2, hb5⟩ := hrel
            by_cases hil : i < 17
            · have hd3 : decide (i < 17) = true := by simpa using hil
              have t0 := box_keep hb5 HT0.out
              have t1 := box_keep hb5 HT1.out
              have HT5 := Lib.hid (HT4.out.below hb5)
              have hI5 := HI4.out.below hb5
              have HB5 := Lib.hid hb5
              obtain ⟨q, hq⟩ := Int.eq_ofNat_of_zero_le (by omega : 0 ≤ i + 1)
              have hq17 : q ≤ 17 := by omega
              have hmk := run_make_noughts Try.underlying24 Try.infoI64 (n := q) (by omega)
              rw [← hq] at hmk
              have hwr : IntKind.i64.wrap (i + 1) = i + 1 := IntWalk.i64_in _ (by omega)
              have hxl : xs.length ≤ 17592186044000 := by rw [hI5.len]; omega
              have hdl : (List.replicate (Sh.size xs).toNat (7 : Int)).length ≤ 17592186044000 := by rw [List.length_replicate]; have := HSZ.out; omega
              have hql : (List.replicate q (0 : Int)).length ≤ 17592186044000 := by rw [List.length_replicate]; omega
              have hfi : Fits i := ⟨by omega, by omega⟩
              have hfa : Fits a := ⟨by omega, by omega⟩
              have hf5 : Fits 5 := ⟨by omega, by omega⟩
              have HXL := Lib.hid hxl
              have HDL := Lib.hid hdl
              have HQL := Lib.hid hql
              have HFI := Lib.hid hfi
              have HFA := Lib.hid hfa
              have HF5 := Lib.hid hf5
              have hgne : gt < wr.heap.size := block_lt_of_cell t0
              clear hb5 hq hxl hdl hql hfi hfa hf5
              go_wp2_with fail
              go_region_held3 (fun w' => w'.cell? ⟨gt, 0, none⟩ = some (.slice At nt ct) ∧ w'.cell? ⟨gt, 1, none⟩ = some (.slice Bt mt et)) (go_keep)
                (first
                  | (go_at_call 9; refine (refPlace_any i hI5.drew HFI.out).mono ?_; rintro e w6 ⟨⟨P, mm, qq, rfl, hqq, hJ⟩, hb6⟩; have HB6 := Lib.hid (HB5.out.drew.trans (hb6.mono HB5.out.size)); have c0 := box_keep (w := wr.drew) hb6 t0; have c1 := box_keep (w := wr.drew) hb6 t1; have HT6 := Lib.hid (Ten.below (w := wr.drew) HT5.out hb6); have hI6 := hI5.drew.below hb6)
                  | (go_at_call 8; (with_reducible refine (l2same_any 5 a HTA.out HIA.out HPA.out HF5.out HFA.out HXL.out HQL.out).mono ?_); rintro e w8 ⟨rfl, hb8⟩; have HB8 := Lib.hid (then_ HBA.out hb8); have d0 := box_keep hb8 (alloc_keep _ (alloc_keep _ b0)); have d1 := box_keep hb8 (alloc_keep _ (alloc_keep _ b1)))
                  | (go_at_call 8; (with_reducible refine (l2same_any 5 a HTB.out HIB.out HPB.out HF5.out HFA.out HXL.out HQL.out).mono ?_); rintro e w8 ⟨rfl, hb8⟩; have HB8 := Lib.hid (then_ HBB.out hb8); have d0 := box_keep hb8 (alloc_keep _ (alloc_keep _ b0)); have d1 := box_keep hb8 (alloc_keep _ (alloc_keep _ b1)))
                  | (go_at_call 8; refine (l2same_any i a HT6.out hI6 hJ HFI.out HFA.out HXL.out HDL.out).mono ?_; rintro e w7 ⟨rfl, hb7⟩; have b0 := box_keep hb7 c0; have b1 := box_keep hb7 c1; have qb0 := fun o => alloc_keep o b0; have qb1 := fun o => alloc_keep o b1; have hI7 := hI6.below hb7; have HTA := Lib.hid (ten_mk (((hI7.alloc (.cells (noughts q) 2)).alloc (.cells #[.int .i64 i] 3))) hmc (own_noughts (base := 0) (heap_alloc2_old w7 (.cells (noughts q) 2) (.cells #[.int .i64 i] 3)) (Nat.zero_le _) (by omega)).ints (Nat.le_refl q)); have HIA := Lib.hid (((hI7.alloc (.cells (noughts q) 2)).alloc (.cells #[.int .i64 i] 3))); have HPA := Lib.hid (own_lit (heap_alloc2_new w7 (.cells (noughts q) 2) (.cells #[.int .i64 i] 3)) HFI.out); have HTB := Lib.hid (ten_mk (((hI7.alloc (.cells #[.int .i64 i] 3)).alloc (.cells (noughts q) 2))) hmc (own_noughts (base := 0) (heap_alloc2_new w7 (.cells #[.int .i64 i] 3) (.cells (noughts q) 2)) (Nat.zero_le _) (by omega)).ints (Nat.le_refl q)); have HIB := Lib.hid (((hI7.alloc (.cells #[.int .i64 i] 3)).alloc (.cells (noughts q) 2))); have HPB := Lib.hid (own_lit (heap_alloc2_old w7 (.cells #[.int .i64 i] 3) (.cells (noughts q) 2)) HFI.out); have hb7' := then_ HB6.out hb7; have HBA := Lib.hid ((hb7'.alloc hb7'.size (.cells (noughts q) 2)).alloc ((hb7'.alloc hb7'.size _).size) (.cells #[.int .i64 i] 3)); have HBB := Lib.hid ((hb7'.alloc hb7'.size (.cells #[.int .i64 i] 3)).alloc ((hb7'.alloc hb7'.size _).size) (.cells (noughts q) 2)); clear hb7' hI7))
              all_goals go_wp2_with fail
              all_goals go_roundw
              case rel => exact ⟨i + 1, rfl, by omega, by omega, HB8.out⟩
              case measure => simp [intOf]; omega
              case rel => exact ⟨i + 1, rfl, by omega, by omega, HB8.out⟩
              case measure => simp [intOf]; omega
            · have HB6 := Lib.hid (then_ HB4.out hb5)
              clear hb5
              go_wp2
              go_roundw
              case rel => exact ⟨a + 1, rfl, by omega, by omega, HB6.out⟩
              case measure => simp [intOf]; omega
        · have hL2 := Lib.hid (HL.out.below HB2.out)
          have HB3 := Lib.hid (then_ HB.out HB2.out)
          go_wp2
          go_roundw
          case rel => exact ⟨k + 1, by go_num, by omega, hL2.out, HB3.out⟩
          case measure => simp [intOf]; omega
    · clear hL
      go_wp2_with fail
      refine (l2known_any _).mono ?_; rintro e w7 ⟨rfl, hb7⟩
      have HB8 := Lib.hid (then_ HB.out hb7)
      clear hb7
      go_wp2
      go_ret
      exact ⟨rfl, HB8.out⟩
end Go.Proofs.Ytdgckcckkfgooaa
