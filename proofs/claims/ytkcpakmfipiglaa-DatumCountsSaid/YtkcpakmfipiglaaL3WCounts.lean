/- DatumCounts: the walk. -/
import Derived.Test.YtkcpakmfipiglaaL3Known
import Derived.Test.YtkcpakmfipiglaaKitV
import Derived.IntWalk
namespace Go.Proofs.Ytkcpakmfipiglaa
open Go.RowKit

theorem Try.infoAny : (Try.prog.info? 20).map (fun i => (i.zero, i.size, i.bytes)) = some (some .nilIface, 1, 16) := by kernel_rfl

/-- The values us are of the kinds ks. -/
def AllK (w : World) (us : List Value) (ks : List Int) : Prop := us.length = ks.length ∧ ∀ (i : Nat) (u : Value), us[i]? = some u → ∃ k o, ks[i]? = some k ∧ Datum w u k o
theorem AllK.below {w w' : World} {us : List Value} {ks : List Int} (h : AllK w us ks) (hb : Below w.heap.size w w') : AllK w' us ks :=
  ⟨h.1, fun i u hu => by obtain ⟨k, o, hk, hd⟩ := h.2 i u hu; exact ⟨k, o, hk, hd.below hb⟩⟩
theorem AllK.append {w : World} {us vs : List Value} {ks ls : List Int} (h : AllK w us ks) (g : AllK w vs ls) : AllK w (us ++ vs) (ks ++ ls) := by
  refine ⟨by simp [h.1, g.1], fun i u hu => ?_⟩
  rw [List.getElem?_append] at hu ⊢
  rw [← h.1]
  split at hu
  · rename_i hl; rw [if_pos hl]; exact h.2 i u hu
  · rename_i hl; rw [if_neg hl]; exact g.2 _ u hu
theorem kinds_of {w : World} {A : Option Addr} {n : Nat} {us : List Value} {ks : List Int} (h : Vals w A n us) (g : AllK w us ks) (hn : n ≤ 1000) : Kinds w A n ks := by
  refine ⟨by rw [← g.1, h.1], by omega, fun j k hj => ?_⟩
  have hjn : j < n := by rw [← h.1, g.1]; exact (List.getElem?_eq_some_iff.1 hj).1
  obtain ⟨ad, u, hA, hb, hu, hc⟩ := h.at_ hjn
  obtain ⟨k', o, hk', hd⟩ := g.2 j u hu
  obtain rfl : k' = k := by rw [hk'] at hj; injection hj
  exact ⟨ad, u, o, hA, hb, hc, hd⟩

def seven (x : Int) (A : Option Addr) (m c : Nat) (s : ByteArray) (P : Nat) : List Value :=
  [.iface 2 (.int .i64 x), .iface 23 (.slice A m c), .iface 9 (.string s), .nilIface, .iface 4 (.bool true), .iface 26 (.agg #[.slice none 0 0, .slice A m c]), .iface 42 (.slice (some ⟨P, 0, none⟩) 0 0)]
def sevenK : List Int := [1, 2, 4, 0, 0, 3, 5]
theorem seven_datum {w : World} {A : Option Addr} {m c : Nat} {l : List Int} {x : Int} {s : ByteArray} {P j : Nat} {u : Value} (hx : Fits x) (hl : Ints w A m l) (hm : m ≤ 17592186044000) (hmc : m ≤ c) (h : (seven x A m c s P)[j]? = some u) :
    u.oneCell' = true ∧ ∃ k o, sevenK[j]? = some k ∧ Datum w u k o := by
  have hj : j < 7 := (List.getElem?_eq_some_iff.1 h).1
  have : j = 0 ∨ j = 1 ∨ j = 2 ∨ j = 3 ∨ j = 4 ∨ j = 5 ∨ j = 6 := by omega
  rcases this with rfl | rfl | rfl | rfl | rfl | rfl | rfl <;> (simp [seven] at h; subst h)
  · exact ⟨rfl, _, _, rfl, .whole64 x hx⟩
  · exact ⟨rfl, _, _, rfl, .row hl hm hmc⟩
  · exact ⟨rfl, _, _, rfl, .text s⟩
  · exact ⟨rfl, _, _, rfl, .nil⟩
  · exact ⟨rfl, _, _, rfl, .other (by unfold Other; decide)⟩
  · exact ⟨rfl, _, _, rfl, .full (ten_mk (Ints.nil_ _ _) (Nat.le_refl _) hl hmc)⟩
  · exact ⟨rfl, _, _, rfl, .many⟩

theorem vals_at {w : World} {A : Option Addr} {n : Nat} {us : List Value} (h : Vals w A n us) {k : Nat} (hk : k < n) : ∃ ad u, A = some ad ∧ ad.block < w.heap.size ∧ us[k]? = some u ∧ w.cell? (ad.add k) = some u ∧ True := by
  obtain ⟨ad, u, h1, h2, h3, h4⟩ := h.at_ hk
  exact ⟨ad, u, h1, h2, h3, h4, trivial⟩
theorem blk_of {w : World} {a : Addr} {k : Nat} {v : Value} (h : w.cell? (a.add k) = some v) : a.block < w.heap.size := by
  have := block_lt_of_cell h
  rwa [block_of_add] at this

def caOf (j : Nat) : List Int := [countK (sevenK.take j) 0, countK (sevenK.take j) 1, countK (sevenK.take j) 2, countK (sevenK.take j) 3, countK (sevenK.take j) 4, countK (sevenK.take j) 5]
def cbOf (j : Nat) : List Int := [countK (sevenK.take j ++ sevenK.take j) 0, countK (sevenK.take j ++ sevenK.take j) 1, countK (sevenK.take j ++ sevenK.take j) 2, countK (sevenK.take j ++ sevenK.take j) 3, countK (sevenK.take j ++ sevenK.take j) 4, countK (sevenK.take j ++ sevenK.take j) 5]
theorem cb_twice : ∀ j < 8, cbOf j = (caOf j).map (2 * ·) := by decide
theorem ca_bd : ∀ j < 8, ∀ y ∈ caOf j, 0 ≤ y ∧ y ≤ 7 := by decide
theorem ca_sum : ∀ j < 8, ∀ i < 7, 0 ≤ ((caOf j).take i).sum ∧ ((caOf j).take i).sum ≤ 7 := by decide
theorem ca_all : ∀ j < 8, ((caOf j).take 6).sum = (j : Int) := by decide
theorem ca_one : ∀ j < 8, ∀ i < j, 1 ≤ (caOf j).getD (sevenK.getD i 0).toNat 0 := by decide

set_option maxRecDepth 100000 in
set_option maxHeartbeats 12800000 in
theorem dcounts_walk {w : World} {A : Option Addr} {m c : Nat} {l : List Int} (s : ByteArray) (n : Int) (hl : Ints w A m l) (hm : m ≤ 17592186044000) (hmc : m ≤ c) :
    Calls Try.prog 6 #[.slice A m c, .string s, .int .i64 n] w fun e w' => e = .returned (.bool true) ∧ Below w.heap.size w w' := by
  have h0 := Int.emod_nonneg n (b := 8) (by omega)
  have h1 := Int.emod_lt_of_pos n (b := 8) (by omega)
  obtain ⟨k, hk⟩ := Int.eq_ofNat_of_zero_le h0
  have hand : bits .and .i64 n 7 = (k : Int) := by rw [and7, hk]
  have hk7 : k ≤ 7 := by omega
  have HL := Lib.hid hl
  have hb0 := Below.refl w.heap.size w
  clear h0 h1 hk hl
  go_enter Try.func6, Try.ntmps6
  go_wp2_with fail
  clear hand
  go_loopw [8, 9] (fun v kv wr => ∃ (j : Nat) (us : List Value), kv = .int .i64 j ∧ j ≤ k ∧ OwnV wr w.heap.size 20 v j us ∧ AllK w us (sevenK.take j) ∧ Below w.heap.size w wr) (fun _ kv _ => k - (intOf kv).toNat)
  case atStart => exact ⟨0, [], rfl, by omega, OwnV.nil_ _ _ _, ⟨rfl, by simp⟩, hb0⟩
  case round =>
    clear hb0
    obtain ⟨j, us, rfl, hj, hV, hK, hB⟩ := hrel
    obtain ⟨Av, cv, rfl, hcv, hVals⟩ := hV.form
    have HVals := Lib.hid hVals
    have HV := Lib.hid hV
    clear hVals
    have HK := Lib.hid hK
    have HB := Lib.hid hB
    clear hV hK hB
    by_cases hlt : j < k
    · have hj7 : (j : Int) % 7 = (j : Int) := by omega
      obtain ⟨u, hu⟩ : ∃ u, (seven (j : Int) A m c s wr.heap.size)[j]? = some u := ⟨_, List.getElem?_eq_getElem (by show j < 7; omega)⟩
      have hsd := seven_datum (w := w) ⟨by omega, by omega⟩ HL.out hm hmc hu
      have hcu : ((wr.alloc (.cells #[] 20)).alloc (.cells (seven (j : Int) A m c s wr.heap.size).toArray 20)).cell? ⟨wr.heap.size + 1, j, none⟩ = some u := by
        rw [World.cell?_alloc_at _ _ _ _ (by simp)]
        simpa using hu
      have HU := Lib.hid hu
      have HSD := Lib.hid hsd
      have hV2 := (HV.out.alloc (.cells #[] 20)).alloc (.cells (seven (j : Int) A m c s wr.heap.size).toArray 20)
      have HV2 := Lib.hid hV2
      have HB2 := Lib.hid ((HB.out.alloc HB.out.size (.cells #[] 20)).alloc (HB.out.alloc HB.out.size _).size (.cells (seven (j : Int) A m c s wr.heap.size).toArray 20))
      unfold seven at hcu
      clear hu hsd hV2
      have hor : u = .iface 2 (.int .i64 (j : Int)) ∨ u = .iface 23 (.slice A m c) ∨ u = .iface 9 (.string s) ∨ u = .nilIface ∨ u = .iface 4 (.bool true) ∨ u = .iface 26 (.agg #[.slice none 0 0, .slice A m c]) ∨ u = .iface 42 (.slice (some ⟨wr.heap.size, 0, none⟩) 0 0) := by
        have hj7' : j < 7 := by omega
        have h2 := HU.out
        have : j = 0 ∨ j = 1 ∨ j = 2 ∨ j = 3 ∨ j = 4 ∨ j = 5 ∨ j = 6 := by omega
        rcases this with rfl | rfl | rfl | rfl | rfl | rfl | rfl <;> (simp [seven] at h2; subst h2; simp)
      rcases hor with rfl | rfl | rfl | rfl | rfl | rfl | rfl
      · go_wp2_with (at_builtin; refine wpList_append_val rfl (.tmp 22) (.tmp 40) 42 20 rfl Try.underlying42 (z := .nilIface) (b := 16) rfl (by decide) Try.infoAny w.heap.size (.slice Av j cv) j us (by rfl) HV2.out ?c1 (.iface 2 (.int .i64 (j : Int))) HSD.out.1 1 (wr.heap.size + 1 + 1) (by simp) (by rfl) ?c3 ?_)
        case c1 => exact HB2.out.size
        case c3 => omega
        intro v' w3 hO3 hB3 hg3
        have HO3 := Lib.hid hO3
        have HB3 := Lib.hid (HB2.out.trans hB3)
        clear hO3 hB3 hg3 hcu
        go_wp2
        go_roundw
        case rel =>
          refine ⟨j + 1, _, by go_num, by omega, HO3.out, ?_, HB3.out⟩
          obtain ⟨kk, o, hkk, hd⟩ := HSD.out.2
          rw [List.take_add_one, hkk]
          refine HK.out.append ⟨rfl, fun i u' hu' => ?_⟩
          cases i with
          | zero => simp at hu'; subst hu'; exact ⟨kk, o, rfl, hd⟩
          | succ i => simp at hu'
        case measure => simp [intOf]; omega
      · go_wp2_with (at_builtin; refine wpList_append_val rfl (.tmp 22) (.tmp 40) 42 20 rfl Try.underlying42 (z := .nilIface) (b := 16) rfl (by decide) Try.infoAny w.heap.size (.slice Av j cv) j us (by rfl) HV2.out ?c1 (.iface 23 (.slice A m c)) HSD.out.1 1 (wr.heap.size + 1 + 1) (by simp) (by rfl) ?c3 ?_)
        case c1 => exact HB2.out.size
        case c3 => omega
        intro v' w3 hO3 hB3 hg3
        have HO3 := Lib.hid hO3
        have HB3 := Lib.hid (HB2.out.trans hB3)
        clear hO3 hB3 hg3 hcu
        go_wp2
        go_roundw
        case rel =>
          refine ⟨j + 1, _, by go_num, by omega, HO3.out, ?_, HB3.out⟩
          obtain ⟨kk, o, hkk, hd⟩ := HSD.out.2
          rw [List.take_add_one, hkk]
          refine HK.out.append ⟨rfl, fun i u' hu' => ?_⟩
          cases i with
          | zero => simp at hu'; subst hu'; exact ⟨kk, o, rfl, hd⟩
          | succ i => simp at hu'
        case measure => simp [intOf]; omega
      · go_wp2_with (at_builtin; refine wpList_append_val rfl (.tmp 22) (.tmp 40) 42 20 rfl Try.underlying42 (z := .nilIface) (b := 16) rfl (by decide) Try.infoAny w.heap.size (.slice Av j cv) j us (by rfl) HV2.out ?c1 (.iface 9 (.string s)) HSD.out.1 1 (wr.heap.size + 1 + 1) (by simp) (by rfl) ?c3 ?_)
        case c1 => exact HB2.out.size
        case c3 => omega
        intro v' w3 hO3 hB3 hg3
        have HO3 := Lib.hid hO3
        have HB3 := Lib.hid (HB2.out.trans hB3)
        clear hO3 hB3 hg3 hcu
        go_wp2
        go_roundw
        case rel =>
          refine ⟨j + 1, _, by go_num, by omega, HO3.out, ?_, HB3.out⟩
          obtain ⟨kk, o, hkk, hd⟩ := HSD.out.2
          rw [List.take_add_one, hkk]
          refine HK.out.append ⟨rfl, fun i u' hu' => ?_⟩
          cases i with
          | zero => simp at hu'; subst hu'; exact ⟨kk, o, rfl, hd⟩
          | succ i => simp at hu'
        case measure => simp [intOf]; omega
      · go_wp2_with (at_builtin; refine wpList_append_val rfl (.tmp 22) (.tmp 40) 42 20 rfl Try.underlying42 (z := .nilIface) (b := 16) rfl (by decide) Try.infoAny w.heap.size (.slice Av j cv) j us (by rfl) HV2.out ?c1 (.nilIface) HSD.out.1 1 (wr.heap.size + 1 + 1) (by simp) (by rfl) ?c3 ?_)
        case c1 => exact HB2.out.size
        case c3 => omega
        intro v' w3 hO3 hB3 hg3
        have HO3 := Lib.hid hO3
        have HB3 := Lib.hid (HB2.out.trans hB3)
        clear hO3 hB3 hg3 hcu
        go_wp2
        go_roundw
        case rel =>
          refine ⟨j + 1, _, by go_num, by omega, HO3.out, ?_, HB3.out⟩
          obtain ⟨kk, o, hkk, hd⟩ := HSD.out.2
          rw [List.take_add_one, hkk]
          refine HK.out.append ⟨rfl, fun i u' hu' => ?_⟩
          cases i with
          | zero => simp at hu'; subst hu'; exact ⟨kk, o, rfl, hd⟩
          | succ i => simp at hu'
        case measure => simp [intOf]; omega
      · go_wp2_with (at_builtin; refine wpList_append_val rfl (.tmp 22) (.tmp 40) 42 20 rfl Try.underlying42 (z := .nilIface) (b := 16) rfl (by decide) Try.infoAny w.heap.size (.slice Av j cv) j us (by rfl) HV2.out ?c1 (.iface 4 (.bool true)) HSD.out.1 1 (wr.heap.size + 1 + 1) (by simp) (by rfl) ?c3 ?_)
        case c1 => exact HB2.out.size
        case c3 => omega
        intro v' w3 hO3 hB3 hg3
        have HO3 := Lib.hid hO3
        have HB3 := Lib.hid (HB2.out.trans hB3)
        clear hO3 hB3 hg3 hcu
        go_wp2
        go_roundw
        case rel =>
          refine ⟨j + 1, _, by go_num, by omega, HO3.out, ?_, HB3.out⟩
          obtain ⟨kk, o, hkk, hd⟩ := HSD.out.2
          rw [List.take_add_one, hkk]
          refine HK.out.append ⟨rfl, fun i u' hu' => ?_⟩
          cases i with
          | zero => simp at hu'; subst hu'; exact ⟨kk, o, rfl, hd⟩
          | succ i => simp at hu'
        case measure => simp [intOf]; omega
      · go_wp2_with (at_builtin; refine wpList_append_val rfl (.tmp 22) (.tmp 40) 42 20 rfl Try.underlying42 (z := .nilIface) (b := 16) rfl (by decide) Try.infoAny w.heap.size (.slice Av j cv) j us (by rfl) HV2.out ?c1 (.iface 26 (.agg #[.slice none 0 0, .slice A m c])) HSD.out.1 1 (wr.heap.size + 1 + 1) (by simp) (by rfl) ?c3 ?_)
        case c1 => exact HB2.out.size
        case c3 => omega
        intro v' w3 hO3 hB3 hg3
        have HO3 := Lib.hid hO3
        have HB3 := Lib.hid (HB2.out.trans hB3)
        clear hO3 hB3 hg3 hcu
        go_wp2
        go_roundw
        case rel =>
          refine ⟨j + 1, _, by go_num, by omega, HO3.out, ?_, HB3.out⟩
          obtain ⟨kk, o, hkk, hd⟩ := HSD.out.2
          rw [List.take_add_one, hkk]
          refine HK.out.append ⟨rfl, fun i u' hu' => ?_⟩
          cases i with
          | zero => simp at hu'; subst hu'; exact ⟨kk, o, rfl, hd⟩
          | succ i => simp at hu'
        case measure => simp [intOf]; omega
      · go_wp2_with (at_builtin; refine wpList_append_val rfl (.tmp 22) (.tmp 40) 42 20 rfl Try.underlying42 (z := .nilIface) (b := 16) rfl (by decide) Try.infoAny w.heap.size (.slice Av j cv) j us (by rfl) HV2.out ?c1 (.iface 42 (.slice (some ⟨wr.heap.size, 0, none⟩) 0 0)) HSD.out.1 1 (wr.heap.size + 1 + 1) (by simp) (by rfl) ?c3 ?_)
        case c1 => exact HB2.out.size
        case c3 => omega
        intro v' w3 hO3 hB3 hg3
        have HO3 := Lib.hid hO3
        have HB3 := Lib.hid (HB2.out.trans hB3)
        clear hO3 hB3 hg3 hcu
        go_wp2
        go_roundw
        case rel =>
          refine ⟨j + 1, _, by go_num, by omega, HO3.out, ?_, HB3.out⟩
          obtain ⟨kk, o, hkk, hd⟩ := HSD.out.2
          rw [List.take_add_one, hkk]
          refine HK.out.append ⟨rfl, fun i u' hu' => ?_⟩
          cases i with
          | zero => simp at hu'; subst hu'; exact ⟨kk, o, rfl, hd⟩
          | succ i => simp at hu'
        case measure => simp [intOf]; omega
    · obtain rfl : j = k := by omega
      have hj8 : j < 8 := by omega
      have hdk : decide ((j : Int) < (j : Int)) = false := by simp
      go_wp2_with fail
      refine (dCount_any (kinds_of HVals.out (HK.out.below HB.out) (by omega))).mono ?_; rintro e w2 ⟨⟨ua, rfl, hua⟩, hb2⟩
      obtain ⟨Aa, ca, rfl, _, hIa, _⟩ := hua.form
      have hIa' : Ints w2 Aa 6 (caOf j) := hIa
      have HVx := Lib.hid (HVals.out.below hb2)
      have HIa := Lib.hid hIa'
      have HB2 := Lib.hid (then_ HB.out hb2)
      clear hua hIa hIa' hb2
      go_wp2_with (first | (at_builtin; refine wpList_append_vals rfl (.tmp 46) (.tmp 47) 42 20 rfl Try.underlying42 (z := .nilIface) (b := 16) rfl (by decide) Try.infoAny w2.heap.size (.slice A4 j c4) j us (by rfl) HO4.out (Nat.le_of_lt HL4.out) Av j cv us (by rfl) HVy.out (by omega) ?_; intro v5 w5 hO5 hg5 hB5; (obtain ⟨A5, c5, hv5, hc5, hV5⟩ := hO5.form); subst hv5; have HV5 := Lib.hid hV5; have HB5 := Lib.hid (HB4.out.trans hB5); clear hO5 hg5 hB5 hV5) | (at_builtin; refine wpList_append_vals rfl (.tmp 44) (.tmp 45) 42 20 rfl Try.underlying42 (z := .nilIface) (b := 16) rfl (by decide) Try.infoAny w2.heap.size (.slice (some ⟨w2.heap.size, 0, none⟩) 0 0) 0 [] (by rfl) (own_emptyV w2 20 (Nat.le_refl _)) (by simp) Av j cv us (by rfl) (HVx.out.below ((Below.refl _ _).alloc (Nat.le_refl _) _)) (by omega) ?_; intro v4 w4 hO4 hg4 hB4; rw [Nat.zero_add, List.nil_append] at hO4; (obtain ⟨A4, c4, hv4, hc4, hV4⟩ := hO4.form); subst hv4; have HO4 := Lib.hid hO4; have HB4 := Lib.hid (((Below.refl w2.heap.size w2).alloc (Nat.le_refl _) (.cells #[] 20)).trans hB4); have HVy := Lib.hid (HVx.out.below HB4.out); have HL4 := Lib.hid (show w2.heap.size < w4.heap.size by have := hB4.size; simp at this; omega); clear hO4 hg4 hB4 hV4))
      have hK5 := (HK.out.append HK.out).below (HB2.out.trans (HB5.out.mono HB2.out.size))
      refine (dCount_any (kinds_of HV5.out hK5 (by omega))).mono ?_; rintro e w6 ⟨⟨ub, rfl, hub⟩, hb6⟩
      obtain ⟨Ab, cb, rfl, _, hIb, _⟩ := hub.form
      have hIb' : Ints w6 Ab 6 (cbOf j) := hIb
      have hb26 := HB5.out.trans (hb6.mono HB5.out.size)
      have HVz := Lib.hid (HVx.out.below hb26)
      have HIb := Lib.hid hIb'
      replace HIa := Lib.hid (HIa.out.below hb26)
      have HB6 := Lib.hid (HB2.out.trans (hb26.mono HB2.out.size))
      clear hub hIb hIb' hb6 hb26 hK5 HB5 HV5
      have e6 : ((6 : Int) != 6) = false := rfl
      go_wp2_with fail
      go_loopw [12, 60] (fun sv kv wr => ∃ i : Nat, kv = .int .i64 i ∧ i ≤ 6 ∧ sv = .int .i64 ((caOf j).take i).sum ∧ ∃ q, wr = w6.drewN q) (fun _ kv _ => 6 - (intOf kv).toNat)
      case atStart => exact ⟨0, rfl, by omega, rfl, 0, rfl⟩
      case round =>
        obtain ⟨i, rfl, hi, rfl, q, rfl⟩ := hrel
        by_cases hil : i < 6
        · obtain ⟨ad, y, e1, hb, hy, hc1, hf⟩ := HIa.out.at_ hil
          subst e1
          obtain ⟨bd, z, e2, hb', hz, hc2, hf'⟩ := HIb.out.at_ hil
          subst e2
          have hyb := ca_bd j hj8 y (List.mem_of_getElem? hy)
          obtain ⟨hy0, hy7⟩ := hyb
          obtain rfl : z = 2 * y := by
            rw [cb_twice j hj8, List.getElem?_map, hy] at hz
            simpa using hz.symm
          have hsb := ca_sum j hj8 i (by omega)
          have hsc := ca_sum j hj8 (i + 1) (by omega)
          have hst : ((caOf j).take (i + 1)).sum = ((caOf j).take i).sum + y := by rw [List.take_add_one, hy]; simp
          rw [hst] at hsc
          obtain ⟨hs0, hs7⟩ := hsb
          obtain ⟨ht0, ht7⟩ := hsc
          have HST := Lib.hid hst
          have hzz : ((2 * y) != (2 * y)) = false := by simp
          clear hy hz hst
          generalize hS : ((caOf j).take i).sum = S at *
          have HSS := Lib.hid hS
          clear hS
          have hwr : IntKind.i64.wrap (2 * y) = 2 * y := IntWalk.i64_in _ (by omega)
          have i0 : (0 : Int) ≤ (i : Int) := by omega
          have i6 : (i : Int) < 6 := by omega
          go_wp2
          go_quiet (fail)
          go_wp2_with fail
          clear hwr
          go_roundw
          case rel => exact ⟨i + 1, by go_num, by omega, by rw [HST.out], _, rfl⟩
          case measure => simp [intOf]; omega
        · obtain rfl : i = 6 := by omega
          have hall := ca_all j hj8
          rw [hall]
          have HIa2 := Lib.hid (HIa.out.drewN q)
          have HVz2 : Hid (Vals (w6.drewN q) Av j us) := Lib.hid HVz.out
          have HB7 := Lib.hid (then_drew HB6.out q)
          clear hall
          generalize w6.drewN q = w7 at *
          have hb70 := Below.refl w7.heap.size w7
          go_wp2_with fail
          go_loopw [82] (fun kv wr => ∃ i : Nat, kv = .int .i64 i ∧ i ≤ j ∧ Below w7.heap.size w7 wr) (fun kv _ => j - (intOf kv).toNat)
          case atStart => exact ⟨0, rfl, by omega, hb70⟩
          case round =>
            clear hb70
            obtain ⟨i, rfl, hi, hbr⟩ := hrel
            have HBr := Lib.hid hbr
            clear hbr
            by_cases hil : i < j
            · obtain ⟨ad, u, rfl, hb, hu, hc1, _⟩ := vals_at (HVz2.out.below HBr.out) hil
              obtain ⟨kk, o, hkk, hd⟩ := (HK.out.below (HB7.out.trans (HBr.out.mono HB7.out.size))).2 i u hu
              have hkk' : sevenK[i]? = some kk := by rw [List.getElem?_take, if_pos hil] at hkk; exact hkk
              have hkb : 0 ≤ kk ∧ kk ≤ 5 := by
                have : kk ∈ sevenK := List.mem_of_getElem? hkk'
                simp [sevenK] at this; omega
              obtain ⟨hk0, hk5⟩ := hkb
              obtain ⟨qk, rfl⟩ := Int.eq_ofNat_of_zero_le hk0
              have hone := ca_one j hj8 i hil
              rw [List.getD_eq_getElem?_getD (l := sevenK), hkk'] at hone
              have hq6 : qk < 6 := by omega
              obtain ⟨bd, y, e2, hb2, hy, hc2, hf⟩ := (HIa2.out.below HBr.out).at_ hq6
              subst e2
              have hy1 : 1 ≤ y := by
                have := hone
                rw [List.getD_eq_getElem?_getD] at this
                simp only [Option.getD_some, Int.toNat_natCast] at this
                rw [hy] at this
                simpa using this
              have hyb := ca_bd j hj8 y (List.mem_of_getElem? hy)
              obtain ⟨hy0, hy7⟩ := hyb
              have HD := Lib.hid hd
              have d1 : decide ((qk : Int) < 0) = false := by simp
              have d2 : decide ((5 : Int) < (qk : Int)) = false := by simp; omega
              have d3 : decide (5 < qk) = false := by simp; omega
              have d4 : decide (y < 1) = false := by simp; omega
              have hdl : decide ((i : Int) < (j : Int)) = true := by simp; omega
              clear hu hkk hkk' hd hone hy hb hb2
              go_wp2_with fail
              refine (dKind_any HD.out).mono ?_; rintro e w8 ⟨rfl, hb8⟩
              have hc1 := (hb8.cell (p := ad.add i) (by rw [block_of_add]; exact blk_of hc1)).trans hc1
              have hc2 := (hb8.cell (p := bd.add qk) (by rw [block_of_add]; exact blk_of hc2)).trans hc2
              replace HD := Lib.hid (HD.out.below hb8)
              have HB8 := Lib.hid (then_ HBr.out hb8)
              clear hb8
              go_wp2_with fail
              refine (dKind_any HD.out).mono ?_; rintro e w9 ⟨rfl, hb9⟩
              have hc1 := (hb9.cell (p := ad.add i) (by rw [block_of_add]; exact blk_of hc1)).trans hc1
              have hc2 := (hb9.cell (p := bd.add qk) (by rw [block_of_add]; exact blk_of hc2)).trans hc2
              replace HD := Lib.hid (HD.out.below hb9)
              have HB9 := Lib.hid (then_ HB8.out hb9)
              clear hb9
              go_wp2_with fail
              refine (dKind_any HD.out).mono ?_; rintro e w10 ⟨rfl, hb10⟩
              have hc2 := (hb10.cell (p := bd.add qk) (by rw [block_of_add]; exact blk_of hc2)).trans hc2
              have HB10 := Lib.hid (then_ HB9.out hb10)
              clear hb10
              go_wp2_with fail
              go_roundw
              case rel => first | exact ⟨i + 1, by go_num, by omega, HB10.out⟩ | ((repeat apply Exists.intro); exact ⟨⟨i + 1, by go_num, by omega, HB10.out⟩, rfl⟩)
              case measure => simp [intOf]; omega
            · have ejj : ((j : Int) == (j : Int)) = true := by simp
              go_wp2_with fail
              refine (l3known_any _).mono ?_; rintro e w8 ⟨rfl, hb8⟩
              have HBe := Lib.hid (then_ (then_ HB7.out HBr.out) hb8)
              clear hb8
              go_wp2
              go_ret
              exact ⟨rfl, HBe.out⟩
end Go.Proofs.Ytkcpakmfipiglaa
