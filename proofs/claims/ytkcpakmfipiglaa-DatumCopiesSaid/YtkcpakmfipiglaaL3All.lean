/- The law function all of stage 3. -/
import Derived.Test.YtkcpakmfipiglaaL3Tells
namespace Go.Proofs.Ytkcpakmfipiglaa
open Go.RowKit

theorem block_keep {w w' : World} {g : Nat} {o : Obj} (hb : Below w.heap.size w w') (h : w.heap[g]? = some o) : w'.heap[g]? = some o := by
  refine (hb.block _ ?_).trans h
  rcases Nat.lt_or_ge g w.heap.size with hl | hl
  · exact hl
  · rw [Array.getElem?_eq_none hl] at h; cases h
theorem datum_zero {w : World} {v : Value} {o : Option (List Int × List Int)} (h : Datum w v 0 o) : o = none := by
  generalize hk : (0 : Int) = k at h
  cases h <;> first | rfl | omega
theorem small_zero {w : World} {v : Value} {o : Option (List Int × List Int)} (h : Datum w v 0 o) : Small v := by
  generalize hk : (0 : Int) = k at h
  intro s hs
  subst hs
  cases h with
  | text s => omega
  | other h => exact absurd rfl h.2.2.2.2.2.1
theorem Kinds.below {w w' : World} {ad : Option Addr} {n : Nat} {ks : List Int} (h : Kinds w ad n ks) (hb : Below w.heap.size w w') : Kinds w' ad n ks :=
  ⟨h.1, h.2.1, fun j k hj => by
    obtain ⟨a, v, o, ha, hl, hc, hd⟩ := h.2.2 j k hj
    exact ⟨a, v, o, ha, Nat.lt_of_lt_of_le hl hb.size, (hb.cell (by rw [block_of_add]; exact hl)).trans hc, hd.below hb⟩⟩
/-- A list of values in a new block. -/
theorem kinds_new {w : World} {cs : Array Value} {t : TypeId} {ks : List Int} (hn : ks.length = cs.size) (hs : cs.size ≤ 1000) (h : ∀ (j : Nat) (v : Value), cs[j]? = some v → ∃ k o, ks[j]? = some k ∧ Datum w v k o) :
    Kinds (w.alloc (.cells cs t)) (some ⟨w.heap.size, 0, none⟩) cs.size ks := by
  refine ⟨hn, by omega, fun j k hj => ?_⟩
  have hjl : j < cs.size := by rw [← hn]; exact (List.getElem?_eq_some_iff.1 hj).1
  obtain ⟨k', o, hk', hd⟩ := h j cs[j] (Array.getElem?_eq_getElem hjl)
  obtain rfl : k' = k := by rw [hk'] at hj; injection hj
  refine ⟨_, cs[j], o, rfl, by simp, ?_, hd.below ((Below.refl _ _).alloc (Nat.le_refl _) _)⟩
  rw [Addr.add_lit, Nat.zero_add, World.cell?_alloc_at cs t _ j rfl, Array.getElem?_eq_getElem hjl]

theorem datHas_row {l : List Int} {m : Nat} (h : l.length = m) : datHas (rowT l) = decide ((m : Int) ≤ 32) := by
  unfold datHas rowT
  subst h
  by_cases h : l.length ≤ 32
  · simp [h]; omega
  · simp [h]; omega
theorem rowT_some {l : List Int} {x : List Int × List Int} (h : rowT l = some x) : [(l.length : Int)] = x.1 ∧ l = x.2 := by
  unfold rowT at h
  split at h
  · injection h with h; subst h; exact ⟨rfl, rfl⟩
  · cases h
theorem datHas_ten {s d : List Int} : datHas (tenT s d) = tenRight s d := by
  unfold datHas tenT
  cases tenRight s d <;> rfl
theorem tenT_some {s d : List Int} {x : List Int × List Int} (h : tenT s d = some x) : s = x.1 ∧ d = x.2 := by
  unfold tenT at h
  split at h
  · injection h with h; subst h; exact ⟨rfl, rfl⟩
  · cases h
theorem ten_nil (w : World) : Ten w (.agg #[.slice none 0 0, .slice none 0 0]) [] [] := ⟨none, 0, 0, none, 0, 0, rfl, by omega, by omega, Ints.nil_ _ _, Ints.nil_ _ _⟩

/-- The eleven values of no kind. -/
theorem none_values {w : World} {p : Value} {q : Value} {j : Nat} {v : Value}
    (h : (#[.iface 39 (.pointer none), .nilIface, .iface 4 (.bool true), .iface 51 (.float .f64 4609434218613702656), .iface 53 (.agg #[.int .i64 5]), .iface 54 p, .iface 24 q, .iface 21 (.int .i32 3), .iface 5 (.int .u8 4), .iface 57 (.int .i64 0), .iface 21 (.int .i32 120)] : Array Value)[j]? = some v) :
    ∃ k o, ([0, 0, 0, 0, 0, 0, 0, 0, 0, 0, 0] : List Int)[j]? = some k ∧ Datum w v k o := by
  have hj : j < 11 := (Array.getElem?_eq_some_iff.1 h).1
  have : j = 0 ∨ j = 1 ∨ j = 2 ∨ j = 3 ∨ j = 4 ∨ j = 5 ∨ j = 6 ∨ j = 7 ∨ j = 8 ∨ j = 9 ∨ j = 10 := by omega
  rcases this with rfl | rfl | rfl | rfl | rfl | rfl | rfl | rfl | rfl | rfl | rfl <;> (simp at h; subst h)
  · exact ⟨0, none, rfl, .nilPtr⟩
  · exact ⟨0, none, rfl, .nil⟩
  all_goals exact ⟨0, none, rfl, .other (by unfold Other; decide)⟩

/-- The eleven values that are counted. -/
theorem count_values {w0 w : World} {A As Bd P : Option Addr} {m c ns cs nd cd g : Nat} {l sd d : List Int} {x : Int} {s : ByteArray} (hb : Below w0.heap.size w0 w) (hx : Fits x) (hl : Ints w0 A m l) (hm : m ≤ 17592186044000) (hmc : m ≤ c) 
    (ht : Ten w0 (.agg #[.slice As ns cs, .slice Bd nd cd]) sd d) (hg : w0.heap[g]? = some (.cells #[.slice As ns cs, .slice Bd nd cd] 26 (0, 0))) {j : Nat} {v : Value}
    (h : (#[.iface 2 (.int .i64 x), .iface 3 (.int .i64 x), .iface 23 (.slice A m c), .iface 26 (.agg #[.slice As ns cs, .slice Bd nd cd]), .iface 39 (.pointer (some ⟨g, 0, none⟩)), .iface 9 (.string s), .iface 9 (.string s), .iface 42 (.slice P 1 1), .nilIface, .iface 53 (.agg #[.int .i64 1]), .iface 39 (.pointer none)] : Array Value)[j]? = some v) :
    ∃ k o, ([1, 1, 2, 3, 3, 4, 4, 5, 0, 0, 0] : List Int)[j]? = some k ∧ Datum w v k o := by
  have hj : j < 11 := (Array.getElem?_eq_some_iff.1 h).1
  have : j = 0 ∨ j = 1 ∨ j = 2 ∨ j = 3 ∨ j = 4 ∨ j = 5 ∨ j = 6 ∨ j = 7 ∨ j = 8 ∨ j = 9 ∨ j = 10 := by omega
  rcases this with rfl | rfl | rfl | rfl | rfl | rfl | rfl | rfl | rfl | rfl | rfl <;> (simp at h; subst h)
  · exact ⟨_, _, rfl, .whole64 x hx⟩
  · exact ⟨_, _, rfl, .whole x hx⟩
  · exact ⟨_, _, rfl, .row (hl.below hb) hm hmc⟩
  · exact ⟨_, _, rfl, .full (ht.below hb)⟩
  · exact ⟨_, _, rfl, .ptr (block_keep hb hg) (ht.below hb)⟩
  · exact ⟨_, _, rfl, .text s⟩
  · exact ⟨_, _, rfl, .text s⟩
  · exact ⟨_, _, rfl, .many⟩
  · exact ⟨_, _, rfl, .nil⟩
  · exact ⟨_, _, rfl, .other (by unfold Other; decide)⟩
  · exact ⟨_, _, rfl, .nilPtr⟩

set_option maxRecDepth 100000 in
set_option maxHeartbeats 12800000 in
theorem lall_any {w : World} {t : Value} {A : Option Addr} {m c : Nat} {l sd d : List Int} (x : Int) (s : ByteArray) (hx : Fits x) (hl : Ints w A m l) (hm : m ≤ 17592186044000) (hmc : m ≤ c) (hs : s.size ≤ 17592186044000) (ht : Ten w t sd d) :
    Calls Try.prog 7 #[.int .i64 x, .slice A m c, .string s, t] w fun e w' => e = .returned (.bool true) ∧ Below w.heap.size w w' := by
  obtain ⟨As, ns, cs, Bd, nd, cd, rfl, hsc, hdc, hS, hD⟩ := ht
  have hb0 := (Below.refl w.heap.size w).alloc (Nat.le_refl _) (.cells #[.slice As ns cs, .slice Bd nd cd] 26)
  have hg0 := heap_alloc_new w (.cells #[.slice As ns cs, .slice Bd nd cd] 26)
  have hml := hl.len
  go_enter Try.func7, Try.ntmps7
  go_upto_region 1 with fail
  generalize w.alloc (.cells #[.slice As ns cs, .slice Bd nd cd] 26) = w1 at *
  have HT := Lib.hid (ten_mk (hS.below hb0) hsc (hD.below hb0) hdc)
  have HL := Lib.hid (hl.below hb0)
  have HG := Lib.hid hg0
  have HB := Lib.hid hb0
  have HX := Lib.hid hx
  have HS := Lib.hid hs
  have HML := Lib.hid hml
  have hgx := heap_alloc_new w (.cells #[.slice As ns cs, .slice Bd nd cd] 26)
  clear hb0 hg0 hS hD hl hx hs hml hgx
  -- one
  have hx1 := ((Below.refl w1.heap.size w1).alloc (Nat.le_refl _) (.cells #[.int .i64 x] 2)).alloc (by simp) (.cells #[.slice none 0 0, .slice (some ⟨w1.heap.size, 0, none⟩) 1 1] 26)
  have ho1 := heap_alloc2_old w1 (.cells #[.int .i64 x] 2) (.cells #[.slice none 0 0, .slice (some ⟨w1.heap.size, 0, none⟩) 1 1] 26)
  have ho2 := heap_alloc2_new w1 (.cells #[.int .i64 x] 2) (.cells #[.slice none 0 0, .slice (some ⟨w1.heap.size, 0, none⟩) 1 1] 26)
  have HO := Lib.hid (ten_mk (Ints.nil_ _ none) (Nat.le_refl _) (OwnS.ints_of (own_one ho1 (Nat.zero_le _) HX.out)) (Nat.le_refl _))
  have H9 := Lib.hid ho2
  replace HT := Lib.hid (HT.out.below hx1)
  replace HL := Lib.hid (HL.out.below hx1)
  replace HG := Lib.hid (block_keep hx1 HG.out)
  replace HB := Lib.hid (then_ HB.out hx1)
  clear hx1
  clear ho1 ho2
  go_upto_region 2 with fail
  generalize (w1.alloc (.cells #[.int .i64 x] 2)).alloc (.cells #[.slice none 0 0, .slice (some ⟨w1.heap.size, 0, none⟩) 1 1] 26) = w2 at *
  generalize hg9 : w1.heap.size + 1 = g9 at *
  generalize w1.heap.size = g8 at *
  clear hg9
  have a0 := cell0_of HG.out
  have a1 := cell1_of HG.out
  go_wp2_with fail
  refine (refTensor_any HT.out).mono ?_; rintro e w3 ⟨rfl, hb3⟩
  clear a0 a1
  replace HT := Lib.hid (HT.out.below hb3)
  replace HL := Lib.hid (HL.out.below hb3)
  replace HG := Lib.hid (block_keep hb3 HG.out)
  replace HB := Lib.hid (then_ HB.out hb3)
  replace HO := Lib.hid (HO.out.below hb3)
  replace H9 := Lib.hid (block_keep hb3 H9.out)
  clear hb3
  obtain ⟨tr, htr⟩ : ∃ b, tenRight sd d = b := ⟨_, rfl⟩
  rw [htr]
  have HTR := Lib.hid htr
  clear htr
  go_wp2_with fail
  refine (refRunes_any w3 s HS.out).mono ?_; rintro e w4 ⟨⟨vr, nr, rfl, hO⟩, hb4⟩
  obtain ⟨Ar, cr, rfl, _, hIr, _⟩ := hO.form
  have HNR := Lib.hid hIr.len
  have HNm := Lib.hid (show nr ≤ 17592186044000 from by rw [← hIr.len]; exact Nat.le_trans (runesOf_length s) HS.out)
  clear hO hIr
  replace HT := Lib.hid (HT.out.below hb4)
  replace HL := Lib.hid (HL.out.below hb4)
  replace HG := Lib.hid (block_keep hb4 HG.out)
  replace HB := Lib.hid (then_ HB.out hb4)
  replace HO := Lib.hid (HO.out.below hb4)
  replace H9 := Lib.hid (block_keep hb4 H9.out)
  clear hb4
  have E1 := Lib.hid (datHas_row (l := l) HML.out)
  have E2 := Lib.hid (datHas_row (l := runesOf s) HNR.out)
  have E3 := Lib.hid (show datHas (tenT sd d) = tr by rw [datHas_ten, HTR.out])
  have o0 := cell0_of H9.out
  have o1 := cell1_of H9.out
  go_wp2_with fail
  have C1 := ltells_any (k := 1) (Datum.whole64 x HX.out) (fun _ h => by simp at h) HO.out (fun y hy => by injection hy with hy; subst hy; exact ⟨rfl, rfl⟩)
  refine C1.mono ?_; rintro e w5 ⟨rfl, hb5⟩
  clear C1 o0 o1
  replace HT := Lib.hid (HT.out.below hb5)
  replace HL := Lib.hid (HL.out.below hb5)
  replace HG := Lib.hid (block_keep hb5 HG.out)
  replace HB := Lib.hid (then_ HB.out hb5)
  replace HO := Lib.hid (HO.out.below hb5)
  replace H9 := Lib.hid (block_keep hb5 H9.out)
  clear hb5
  have o0 := cell0_of H9.out
  have o1 := cell1_of H9.out
  go_wp2_with fail
  have C1 := ltells_any (k := 1) (Datum.whole x HX.out) (fun _ h => by simp at h) HO.out (fun y hy => by injection hy with hy; subst hy; exact ⟨rfl, rfl⟩)
  refine C1.mono ?_; rintro e w6 ⟨rfl, hb6⟩
  clear C1 o0 o1 HO H9
  replace HT := Lib.hid (HT.out.below hb6)
  replace HL := Lib.hid (HL.out.below hb6)
  replace HG := Lib.hid (block_keep hb6 HG.out)
  replace HB := Lib.hid (then_ HB.out hb6)
  clear hb6
  go_wp2_with fail
  refine (lrow_any HL.out hm).mono ?_; rintro e w7 ⟨⟨vrow, rfl, hrow⟩, hb7⟩
  have HR := Lib.hid hrow.ten
  clear hrow
  replace HT := Lib.hid (HT.out.below hb7)
  replace HL := Lib.hid (HL.out.below hb7)
  replace HG := Lib.hid (block_keep hb7 HG.out)
  replace HB := Lib.hid (then_ HB.out hb7)
  clear hb7
  go_wp2_with fail
  have C1 := ltells_any (k := 2) (Datum.row (c := c) HL.out hm hmc) (fun _ h => by simp at h) HR.out (fun y hy => by have := rowT_some hy; rwa [HML.out] at this)
  rw [E1.out] at C1
  refine C1.mono ?_; rintro e w8 ⟨rfl, hb8⟩
  clear C1 HR
  replace HT := Lib.hid (HT.out.below hb8)
  replace HL := Lib.hid (HL.out.below hb8)
  replace HG := Lib.hid (block_keep hb8 HG.out)
  replace HB := Lib.hid (then_ HB.out hb8)
  clear hb8
  go_wp2_with fail
  refine (lrunes_any w8 s HS.out).mono ?_; rintro e w9 ⟨⟨vrow, rfl, hrow⟩, hb9⟩
  have HR := Lib.hid hrow.ten
  clear hrow
  replace HT := Lib.hid (HT.out.below hb9)
  replace HL := Lib.hid (HL.out.below hb9)
  replace HG := Lib.hid (block_keep hb9 HG.out)
  replace HB := Lib.hid (then_ HB.out hb9)
  clear hb9
  go_wp2_with fail
  have C1 := ltells_any (k := 4) (Datum.text s) (fun s' h => by injection h with _ h; injection h with h; rw [← h]; exact HS.out) HR.out (fun y hy => rowT_some hy)
  rw [E2.out] at C1
  refine C1.mono ?_; rintro e w10 ⟨rfl, hb10⟩
  clear C1 HR
  replace HT := Lib.hid (HT.out.below hb10)
  replace HL := Lib.hid (HL.out.below hb10)
  replace HG := Lib.hid (block_keep hb10 HG.out)
  replace HB := Lib.hid (then_ HB.out hb10)
  clear hb10
  have a0 := cell0_of HG.out
  have a1 := cell1_of HG.out
  go_wp2_with fail
  have C1 := ltells_any (k := 3) (Datum.full HT.out) (fun _ h => by simp at h) HT.out (fun y hy => tenT_some hy)
  rw [E3.out] at C1
  refine C1.mono ?_; rintro e w11 ⟨rfl, hb11⟩
  clear C1 a0 a1
  replace HT := Lib.hid (HT.out.below hb11)
  replace HL := Lib.hid (HL.out.below hb11)
  replace HG := Lib.hid (block_keep hb11 HG.out)
  replace HB := Lib.hid (then_ HB.out hb11)
  clear hb11
  have a0 := cell0_of HG.out
  have a1 := cell1_of HG.out
  go_wp2_with fail
  have C1 := ltells_any (k := 3) (Datum.ptr HG.out HT.out) (fun _ h => by simp at h) HT.out (fun y hy => tenT_some hy)
  rw [E3.out] at C1
  refine C1.mono ?_; rintro e w12 ⟨rfl, hb12⟩
  clear C1 a0 a1
  replace HT := Lib.hid (HT.out.below hb12)
  replace HL := Lib.hid (HL.out.below hb12)
  replace HG := Lib.hid (block_keep hb12 HG.out)
  replace HB := Lib.hid (then_ HB.out hb12)
  clear hb12
  go_upto_region 8 with fail
  have hk0 := kinds_new (w := ((w12.alloc (.cells #[.int .i64 0] 53)).alloc (.cells #[.int .i64 1] 3))) (cs := #[.iface 39 (.pointer none), .nilIface, .iface 4 (.bool true), .iface 51 (.float .f64 4609434218613702656), .iface 53 (.agg #[.int .i64 5]), .iface 54 (.pointer (some ⟨w12.heap.size, 0, none⟩)), .iface 24 (.slice (some ⟨w12.heap.size + 1, 0, none⟩) 1 1), .iface 21 (.int .i32 3), .iface 5 (.int .u8 4), .iface 57 (.int .i64 0), .iface 21 (.int .i32 120)]) (t := 20) (ks := [0, 0, 0, 0, 0, 0, 0, 0, 0, 0, 0]) rfl (by simp) (fun j v hj => none_values hj)
  have hb13 := (((Below.refl w12.heap.size w12).alloc (Nat.le_refl _) (.cells #[.int .i64 0] 53)).alloc (by simp) (.cells #[.int .i64 1] 3)).alloc (by simp; omega) (.cells #[.iface 39 (.pointer none), .nilIface, .iface 4 (.bool true), .iface 51 (.float .f64 4609434218613702656), .iface 53 (.agg #[.int .i64 5]), .iface 54 (.pointer (some ⟨w12.heap.size, 0, none⟩)), .iface 24 (.slice (some ⟨w12.heap.size + 1, 0, none⟩) 1 1), .iface 21 (.int .i32 3), .iface 5 (.int .u8 4), .iface 57 (.int .i64 0), .iface 21 (.int .i32 120)] 20)
  simp only [size_alloc] at hk0
  have HK := Lib.hid hk0
  clear hk0
  replace HT := Lib.hid (HT.out.below hb13)
  replace HL := Lib.hid (HL.out.below hb13)
  replace HG := Lib.hid (block_keep hb13 HG.out)
  replace HB := Lib.hid (then_ HB.out hb13)
  clear hb13
  go_wp2_with fail
  generalize (((w12.alloc (.cells #[.int .i64 0] 53)).alloc (.cells #[.int .i64 1] 3))).alloc (.cells #[.iface 39 (.pointer none), .nilIface, .iface 4 (.bool true), .iface 51 (.float .f64 4609434218613702656), .iface 53 (.agg #[.int .i64 5]), .iface 54 (.pointer (some ⟨w12.heap.size, 0, none⟩)), .iface 24 (.slice (some ⟨w12.heap.size + 1, 0, none⟩) 1 1), .iface 21 (.int .i32 3), .iface 5 (.int .u8 4), .iface 57 (.int .i64 0), .iface 21 (.int .i32 120)] 20) = w13 at *
  generalize w12.heap.size = g12 at *
  have hb14 := Below.refl w13.heap.size w13
  go_loopw [91] (fun kv wr => ∃ j : Nat, kv = .int .i64 j ∧ j ≤ 11 ∧ Below w13.heap.size w13 wr) (fun kv _ => 11 - (intOf kv).toNat)
  case atStart => exact ⟨0, rfl, by omega, hb14⟩
  case round =>
    clear hb14
    obtain ⟨j, rfl, hj, hbr⟩ := hrel
    by_cases hlt : j < 11
    · have hK := (HK.out.below hbr).2.2 j 0 (by
        have : j = 0 ∨ j = 1 ∨ j = 2 ∨ j = 3 ∨ j = 4 ∨ j = 5 ∨ j = 6 ∨ j = 7 ∨ j = 8 ∨ j = 9 ∨ j = 10 := by omega
        rcases this with rfl | rfl | rfl | rfl | rfl | rfl | rfl | rfl | rfl | rfl | rfl <;> rfl)
      obtain ⟨ad, v, o, had, _, hcv, hdv⟩ := hK
      injection had with had
      subst had
      rw [Addr.add_lit, Nat.zero_add] at hcv
      obtain rfl := datum_zero hdv
      have HDV := Lib.hid hdv
      have HBr := Lib.hid hbr
      have hd1 : decide ((j : Int) < 11) = true := by simp; omega
      clear hdv hbr
      go_wp2_with fail
      have C1 := ltells_any (k := 0) HDV.out (small_zero HDV.out) (ten_nil _) (fun y hy => by cases hy)
      refine C1.mono ?_; rintro e w14 ⟨rfl, hb14⟩
      have HB14 := Lib.hid (then_ HBr.out hb14)
      clear C1 hb14 hcv
      go_wp2_with fail
      go_roundw
      case rel => exact ⟨j + 1, by go_num, by omega, HB14.out⟩
      case measure => simp [intOf]; omega
    · have hb14 := hbr
      clear hbr
      replace HT := Lib.hid (HT.out.below hb14)
      replace HL := Lib.hid (HL.out.below hb14)
      replace HG := Lib.hid (block_keep hb14 HG.out)
      replace HB := Lib.hid (then_ HB.out hb14)
      clear hb14
      have hk1 := kinds_new (w := (wr.alloc (.cells #[.iface 2 (.int .i64 x)] 20))) (cs := #[.iface 2 (.int .i64 x), .iface 3 (.int .i64 x), .iface 23 (.slice A m c), .iface 26 (.agg #[.slice As ns cs, .slice Bd nd cd]), .iface 39 (.pointer (some ⟨w.heap.size, 0, none⟩)), .iface 9 (.string s), .iface 9 (.string s), .iface 42 (.slice (some ⟨wr.heap.size, 0, none⟩) 1 1), .nilIface, .iface 53 (.agg #[.int .i64 1]), .iface 39 (.pointer none)]) (t := 20) (ks := [1, 1, 2, 3, 3, 4, 4, 5, 0, 0, 0]) rfl (by simp) (fun j v hj => count_values (Below.refl _ _ |>.alloc (Nat.le_refl _) _) HX.out HL.out hm hmc HT.out HG.out hj)
      have hb15 := ((Below.refl wr.heap.size wr).alloc (Nat.le_refl _) (.cells #[.iface 2 (.int .i64 x)] 20)).alloc (by simp) (.cells #[.iface 2 (.int .i64 x), .iface 3 (.int .i64 x), .iface 23 (.slice A m c), .iface 26 (.agg #[.slice As ns cs, .slice Bd nd cd]), .iface 39 (.pointer (some ⟨w.heap.size, 0, none⟩)), .iface 9 (.string s), .iface 9 (.string s), .iface 42 (.slice (some ⟨wr.heap.size, 0, none⟩) 1 1), .nilIface, .iface 53 (.agg #[.int .i64 1]), .iface 39 (.pointer none)] 20)
      rw [size_alloc] at hk1
      have HK1 := Lib.hid hk1
      have a0 := cell0_of HG.out
      have a1 := cell1_of HG.out
      clear hk1
      replace HT := Lib.hid (HT.out.below hb15)
      replace HL := Lib.hid (HL.out.below hb15)
      replace HG := Lib.hid (block_keep hb15 HG.out)
      replace HB := Lib.hid (then_ HB.out hb15)
      clear hb15
      go_wp2_with fail
      refine (dCount_any HK1.out).mono ?_; rintro e w16 ⟨⟨u, rfl, hu⟩, hb16⟩
      rw [show ([countK [1, 1, 2, 3, 3, 4, 4, 5, 0, 0, 0] 0, countK [1, 1, 2, 3, 3, 4, 4, 5, 0, 0, 0] 1, countK [1, 1, 2, 3, 3, 4, 4, 5, 0, 0, 0] 2, countK [1, 1, 2, 3, 3, 4, 4, 5, 0, 0, 0] 3, countK [1, 1, 2, 3, 3, 4, 4, 5, 0, 0, 0] 4, countK [1, 1, 2, 3, 3, 4, 4, 5, 0, 0, 0] 5] : List Int) = [3, 2, 1, 2, 2, 1] by decide] at hu
      obtain ⟨Au, cu, rfl, _, hIu, _⟩ := hu.form
      have HU := Lib.hid hIu
      clear hu hIu a0 a1 HK1
      replace HB := Lib.hid (then_ HB.out hb16)
      clear hb16
      go_wp2_with fail
      have C1 := ltells_any (w := w16.alloc (.cells #[.iface 2 (.int .i64 x), .iface 23 (.slice A m c)] 20)) (k := 5) (o := none) (Datum.many (A := some ⟨w16.heap.size, 0, none⟩) (n := 2) (c := 2)) (fun _ h => by simp at h) (ten_nil _) (fun y hy => by cases hy)
      refine C1.mono ?_; rintro e w17 ⟨rfl, hb17⟩
      have hb18 := then_ ((Below.refl w16.heap.size w16).alloc (Nat.le_refl _) _) hb17
      clear C1 hb17
      replace HU := Lib.hid (HU.out.below hb18)
      replace HB := Lib.hid (then_ HB.out hb18)
      clear hb18
      have hlit := ints_fresh w17 3 #[.int .i64 3, .int .i64 2, .int .i64 1, .int .i64 2, .int .i64 2, .int .i64 1] [3, 2, 1, 2, 2, 1] rfl (by intro y hy; have h1 : 1 ≤ y ∧ y ≤ 3 := (by simp at hy; omega); exact ⟨by omega, by omega⟩) 6 rfl (by omega)
      have hb19 := (Below.refl w17.heap.size w17).alloc (Nat.le_refl _) (.cells #[.int .i64 3, .int .i64 2, .int .i64 1, .int .i64 2, .int .i64 2, .int .i64 1] 3)
      have HLit := Lib.hid hlit
      clear hlit
      replace HU := Lib.hid (HU.out.below hb19)
      replace HB := Lib.hid (then_ HB.out hb19)
      clear hb19
      go_wp2_with fail
      refine (bookSame_eq HU.out HLit.out).mono ?_; rintro e w20 ⟨rfl, q, rfl⟩
      have HBz := Lib.hid (then_drew HB.out q)
      go_wp2
      go_ret
      exact ⟨rfl, HBz.out⟩
end Go.Proofs.Ytkcpakmfipiglaa
