/- Contracts of package fold. -/
import Derived.Test.YtgdgpggicgfddaaRef6
import Derived.Test.YtgdgpggicgfddaaPointC
import Derived.Test.YtgdgpggicgfddaaPlaceO
import Derived.Test.YtgdgpggicgfddaaTenC
import Derived.Test.YtgdgpggicgfddaaSepC
import Derived.StillTailTactics
namespace Go.Proofs.Ytgdgpggicgfddaa
open Go.RowKit

/-! A list without some: what is left, and what is left of the axes. -/
def wo : Nat → List Int → List Int → List Int × List Int
  | _, [], ax => ([], ax)
  | k, x :: l, ax => if ax[0]? = some (k : Int) then wo (k + 1) l (ax.drop 1) else (x :: (wo (k + 1) l ax).1, (wo (k + 1) l ax).2)
def WoAt (l a : List Int) (j : Nat) (acc ax : List Int) : Prop := wo 0 l a = (acc ++ (wo j (l.drop j) ax).1, (wo j (l.drop j) ax).2)
theorem WoAt.start (l a : List Int) : WoAt l a 0 [] a := by simp [WoAt]
theorem drop_at {l : List Int} {j : Nat} {y : Int} (h : l[j]? = some y) : l.drop j = y :: l.drop (j + 1) := by
  obtain ⟨hj, rfl⟩ := List.getElem?_eq_some_iff.1 h
  exact List.drop_eq_getElem_cons hj
theorem WoAt.hit {l a acc ax : List Int} {j : Nat} {y : Int} (h : WoAt l a j acc ax) (hy : l[j]? = some y) (hx : ax[0]? = some (j : Int)) : WoAt l a (j + 1) acc (ax.drop 1) := by
  unfold WoAt at *
  rw [h, drop_at hy, wo, if_pos hx]
theorem WoAt.miss {l a acc ax : List Int} {j : Nat} {y : Int} (h : WoAt l a j acc ax) (hy : l[j]? = some y) (hx : ax[0]? ≠ some (j : Int)) : WoAt l a (j + 1) (acc ++ [y]) ax := by
  unfold WoAt at *
  rw [h, drop_at hy, wo, if_neg hx]
  simp
theorem WoAt.fin {l a acc ax : List Int} {j : Nat} (h : WoAt l a j acc ax) (hj : l.length ≤ j) : wo 0 l a = (acc, ax) := by
  unfold WoAt at h
  rw [h, List.drop_eq_nil_of_le hj]
  simp [wo]

/-- Rising, from k on, below n. -/
def Up : Int → Int → List Int → Prop
  | _, _, [] => True
  | k, n, x :: l => k ≤ x ∧ x < n ∧ Up (x + 1) n l
theorem Up.mem : ∀ {l : List Int} {k n : Int}, Up k n l → ∀ x ∈ l, k ≤ x ∧ x < n
  | [], _, _, _, x, hx => by cases hx
  | y :: l, k, n, h, x, hx => by
    obtain ⟨h1, h2, h3⟩ := h
    rcases List.mem_cons.1 hx with rfl | hx
    · exact ⟨h1, h2⟩
    · have := Up.mem h3 x hx; omega
theorem up_of : ∀ {l : List Int} {k n : Int}, (∀ x, l[0]? = some x → k ≤ x) → (∀ (j : Nat) x, l[j]? = some x → x < n ∧ ∀ z, 0 < j → l[j - 1]? = some z → z < x) → Up k n l
  | [], _, _, _, _ => trivial
  | y :: l, k, n, h0, h => by
    refine ⟨h0 y rfl, (h 0 y rfl).1, up_of (fun x hx => ?_) fun j x hx => ?_⟩
    · have := (h 1 x (by simpa using hx)).2 y (by omega) rfl; omega
    · refine ⟨(h (j + 1) x (by simpa using hx)).1, fun z hj hz => (h (j + 1) x (by simpa using hx)).2 z (by omega) ?_⟩
      obtain ⟨j, rfl⟩ : ∃ i, j = i + 1 := ⟨j - 1, by omega⟩
      simpa using hz
theorem Up.adj : ∀ {l : List Int} {k n : Int}, Up k n l → ∀ (j : Nat) x z, l[j + 1]? = some x → l[j]? = some z → z < x
  | [], _, _, _, j, x, z, hx, _ => by simp at hx
  | y :: l, k, n, h, j, x, z, hx, hz => by
    obtain ⟨_, _, h3⟩ := h
    cases j with
    | zero =>
      simp at hz; subst hz
      have := (h3.mem x (List.mem_of_getElem? (by simpa using hx))).1; omega
    | succ j => exact Up.adj h3 j x z (by simpa using hx) (by simpa using hz)
theorem rises_up {a : List Int} {r : Nat} : Rises a r ↔ Up 0 r a := by
  constructor
  · intro h
    exact up_of (fun x hx => (h 0 x hx).1) fun j x hx => ⟨(h j x hx).2.1, (h j x hx).2.2⟩
  · intro h k x hx
    have hm := h.mem x (List.mem_of_getElem? hx)
    refine ⟨hm.1, hm.2, fun z hk hz => ?_⟩
    obtain ⟨k, rfl⟩ : ∃ i, k = i + 1 := ⟨k - 1, by omega⟩
    exact h.adj k x z hx (by simpa using hz)
theorem restAt_congr {a b : List Int} : ∀ (l : List Int) (k : Nat), (∀ j : Nat, k ≤ j → ((j : Int) ∈ a ↔ (j : Int) ∈ b)) → restAt a k l = restAt b k l
  | [], k, _ => rfl
  | x :: l, k, h => by
    rw [restAt, restAt, restAt_congr l (k + 1) fun j hj => h j (by omega)]
    by_cases hm : (k : Int) ∈ a
    · rw [if_pos hm, if_pos ((h k (by omega)).1 hm)]
    · rw [if_neg hm, if_neg (fun hb => hm ((h k (by omega)).2 hb))]
theorem wo_up : ∀ (l : List Int) (k : Nat) (ax : List Int), ((wo k l ax).2 = [] ↔ Up k ((k + l.length : Nat) : Int) ax) ∧ (Up k ((k + l.length : Nat) : Int) ax → (wo k l ax).1 = restAt ax k l)
  | [], k, ax => by
    constructor
    · cases ax with
      | nil => simp [wo, Up]
      | cons y ax => simp only [wo, Up, List.length_nil, Nat.add_zero]; constructor <;> intro h; cases h; omega
    · intro h; rfl
  | x :: l, k, ax => by
    have el : ((k + (x :: l).length : Nat) : Int) = ((k + 1 + l.length : Nat) : Int) := by rw [List.length_cons]; congr 1; omega
    rw [el]
    by_cases hx : ax[0]? = some (k : Int)
    · match ax, hx with
      | y :: ax, hx =>
        simp at hx; subst hx
        obtain ⟨i1, i2⟩ := wo_up l (k + 1) ax
        have e : wo k (x :: l) ((k : Int) :: ax) = wo (k + 1) l ax := by rw [wo]; exact if_pos rfl
        have eu : Up k ((k + 1 + l.length : Nat) : Int) ((k : Int) :: ax) ↔ Up ((k + 1 : Nat) : Int) ((k + 1 + l.length : Nat) : Int) ax := by
          simp only [Up]
          constructor
          · rintro ⟨_, _, h⟩; simpa using h
          · intro h; exact ⟨by omega, by omega, by simpa using h⟩
        rw [e, eu]
        refine ⟨i1, fun h => (i2 h).trans ?_⟩
        rw [restAt, if_pos (by simp)]
        refine restAt_congr l (k + 1) fun j hj => ?_
        rw [List.mem_cons]
        constructor
        · exact .inr
        · rintro (h | h)
          · omega
          · exact h
    · obtain ⟨i1, i2⟩ := wo_up l (k + 1) ax
      have e : wo k (x :: l) ax = (x :: (wo (k + 1) l ax).1, (wo (k + 1) l ax).2) := by rw [wo, if_neg hx]
      have eu : Up k ((k + 1 + l.length : Nat) : Int) ax ↔ Up ((k + 1 : Nat) : Int) ((k + 1 + l.length : Nat) : Int) ax := by
        cases ax with
        | nil => simp [Up]
        | cons y ax =>
          simp at hx
          simp only [Up]
          constructor
          · rintro ⟨h1, h2, h3⟩; exact ⟨by omega, h2, h3⟩
          · rintro ⟨h1, h2, h3⟩; exact ⟨by omega, h2, h3⟩
      rw [e, eu]
      refine ⟨i1, fun h => ?_⟩
      have hn : ¬ (k : Int) ∈ ax := fun hm => by have := (h.mem _ hm).1; omega
      rw [restAt, if_neg hn]
      show x :: _ = _
      rw [i2 h]
def woL (l a : List Int) : List Int := (wo 0 l a).1
def woOk (l a : List Int) : Bool := decide ((wo 0 l a).2 = [])
theorem wo_yes {l a : List Int} (h : Rises a l.length) : woOk l a = true ∧ woL l a = rest a l := by
  have hu : Up ((0 : Nat) : Int) ((0 + l.length : Nat) : Int) a := by have := rises_up.1 h; simpa using this
  obtain ⟨h1, h2⟩ := wo_up l 0 a
  exact ⟨decide_eq_true (h1.2 hu), h2 hu⟩
theorem wo_no {l a : List Int} (h : ¬ Rises a l.length) : woOk l a = false := by
  obtain ⟨h1, _⟩ := wo_up l 0 a
  exact decide_eq_false fun hc => h (rises_up.2 (by have := h1.1 hc; simpa using this))

/-- 'make([]T, 0, n)' -/
theorem run_make_room {t e : TypeId} (ht : Try.prog.underlying t = some (.slice e)) (hinfo : (Try.prog.info? e).map (fun i => (i.zero, i.size, i.bytes)) = some (some (.int .i64 0), 1, 8))
    {n : Nat} (hn : n ≤ 17592186044000) (w : World) :
    (Instr.makeSlice t (.int .i64 0) (.int .i64 n)).run Try.prog w = .ok (.slice (some ⟨w.heap.size, 0, none⟩) 0 n) (w.alloc (.cells (noughts n) e)) := by
  obtain ⟨i, hi, hz0, hz1, hz2⟩ := info_parts hinfo
  have := run_make (P := Try.prog) w t e i (.int .i64 0) ht hi hz0 .i64 .i64 0 n (by omega) (by omega) (by rw [hz2]; omega) (by omega)
  rw [this, hz1]
  simp only [Int.toNat_natCast, Nat.mul_one]
  rw [← madeCells_noughts]; rfl
theorem Sep.room {w0 w : World} {l : List Chunk} (h : Sep w0 w l) (e : TypeId) (n : Nat) (hn : n ≤ 17592186044000) : Sep w0 (w.alloc (.cells (Go.Proofs.Ytgdgpggicgfddaa.noughts n) e)) (.own e (.slice (some ⟨w.heap.size, 0, none⟩) 0 n) 0 [] :: l) :=
  h.addOwn ((Below.refl _ _).alloc (Nat.le_refl _) _) ⟨⟨rfl, .inr ⟨w.heap.size, n, Go.Proofs.Ytgdgpggicgfddaa.noughts n, rfl, Nat.le_refl _, heap_alloc_new _ _, Nat.zero_le _, by unfold maxLen; omega, by simp [Go.Proofs.Ytgdgpggicgfddaa.noughts], by simp⟩⟩, by simp, by omega⟩
/-- l[1:] -/
theorem run_dropI {w1 : World} {a : Addr} {n c : Nat} {xs : List Int} (hI : Ints w1 (some a) n xs) (h1 : 1 ≤ n) (hnc : n ≤ c) : ∃ A2 : Option Addr, (∀ w, (Instr.slice 22 (.slice (some a) n c) (some (.int .i64 1)) none none).run Try.prog w = .ok (.slice A2 (n - 1) (c - 1)) w) ∧ Ints w1 A2 (n - 1) (xs.drop 1) := by
  have hu : Try.prog.underlying 22 = some (.slice 3) := by kernel_rfl
  have hd := hI.drop (k := 1) h1 hnc
  by_cases hc : c = 1
  · refine ⟨some a, fun w => ?_, by rwa [if_pos hc] at hd⟩
    go_simp
    intro h; omega
  · refine ⟨some (a.add 1), fun w => ?_, by rwa [if_neg hc] at hd⟩
    go_simp
    intro h; omega

theorem fdRight_any (how : Int) (w : World) :
    Calls Try.prog 22 #[.int .i64 how] w fun e w' => e = .returned (.bool (howOk how)) ∧ w = w' := by
  by_cases h1 : 1 ≤ how
  · have d1 : decide (1 ≤ how) = true := by simpa using h1
    go_enter Try.func22, Try.ntmps22
    go_wp2
    go_ret
    exact ⟨ret_bool (by simp [howOk, h1]), rfl⟩
  · have d1 : decide (1 ≤ how) = false := by simpa using h1
    have HX := Lib.hid (show howOk how = false by simp only [howOk, d1, Bool.false_and])
    go_enter Try.func22, Try.ntmps22
    go_wp2
    go_ret
    exact ⟨ret_bool HX.out.symm, rfl⟩
set_option maxHeartbeats 1600000 in
theorem fdNone_any (how : Int) (w : World) :
    Calls Try.prog 18 #[.int .i64 how] w fun e w' => e = .returned (.int .i64 (noneF how)) ∧ w = w' := by
  by_cases h2 : how = 2
  · subst h2
    go_enter Try.func18, Try.ntmps18
    go_wp2
    go_ret
    exact ⟨by simp [noneF], rfl⟩
  by_cases h3 : how = 3
  · subst h3
    clear h2
    go_enter Try.func18, Try.ntmps18
    go_wp2
    go_ret
    exact ⟨by simp [noneF], rfl⟩
  by_cases h4 : how = 4
  · subst h4
    clear h2 h3
    go_enter Try.func18, Try.ntmps18
    go_wp2
    go_ret
    exact ⟨by simp [noneF], rfl⟩
  have b2 : (how == 2) = false := by simpa using h2
  have b3 : (how == 3) = false := by simpa using h3
  have b4 : (how == 4) = false := by simpa using h4
  have HX := Lib.hid (show noneF how = 0 by simp [noneF, h2, h3, h4])
  clear h2 h3 h4
  go_enter Try.func18, Try.ntmps18
  go_wp2
  go_ret
  exact ⟨by rw [HX.out]; rfl, rfl⟩
set_option maxHeartbeats 1600000 in
theorem fdStep_any (how a b : Int) (w : World) :
    Calls Try.prog 9 #[.int .i64 how, .int .i64 a, .int .i64 b] w fun e w' => e = .returned (.int .i64 (putF how a b)) ∧ w = w' := by
  by_cases h1 : how = 1
  · subst h1
    have CP := pStep_any 6 a b w
    rw [show stepF 6 a b = putF 1 a b by simp [stepF, putF]] at CP
    go_enter Try.func9, Try.ntmps9
    go_wp2_with fail
    refine CP.mono ?_; rintro e1 w1 ⟨rfl, rfl⟩
    clear CP
    go_wp2
    go_ret
    exact ⟨rfl, rfl⟩
  by_cases h2 : how = 2
  · subst h2
    clear h1
    have CP := pStep_any 8 a b w
    rw [show stepF 8 a b = putF 2 a b by simp [stepF, putF]] at CP
    go_enter Try.func9, Try.ntmps9
    go_wp2_with fail
    refine CP.mono ?_; rintro e1 w1 ⟨rfl, rfl⟩
    clear CP
    go_wp2
    go_ret
    exact ⟨rfl, rfl⟩
  by_cases h3 : how = 3
  · subst h3
    clear h1 h2
    have CP := pStep_any 9 a b w
    rw [show stepF 9 a b = putF 3 a b by simp [stepF, putF]] at CP
    go_enter Try.func9, Try.ntmps9
    go_wp2_with fail
    refine CP.mono ?_; rintro e1 w1 ⟨rfl, rfl⟩
    clear CP
    go_wp2
    go_ret
    exact ⟨rfl, rfl⟩
  by_cases h4 : how = 4
  · subst h4
    clear h1 h2 h3
    have CP := pStep_any 10 a b w
    rw [show stepF 10 a b = putF 4 a b by simp [stepF, putF]] at CP
    go_enter Try.func9, Try.ntmps9
    go_wp2_with fail
    refine CP.mono ?_; rintro e1 w1 ⟨rfl, rfl⟩
    clear CP
    go_wp2
    go_ret
    exact ⟨rfl, rfl⟩
  have b1 : (how == 1) = false := by simpa using h1
  have b2 : (how == 2) = false := by simpa using h2
  have b3 : (how == 3) = false := by simpa using h3
  have b4 : (how == 4) = false := by simpa using h4
  have HX := Lib.hid (show putF how a b = 0 by simp [putF, h1, h2, h3, h4])
  clear h1 h2 h3 h4
  go_enter Try.func9, Try.ntmps9
  go_wp2
  go_ret
  exact ⟨by rw [HX.out]; rfl, rfl⟩
set_option maxRecDepth 100000 in
set_option maxHeartbeats 3200000 in
theorem fdWithout_any {w : World} {A Aa : Option Addr} {n c na ca : Nat} {l a : List Int} (h : Ints w A n l) (hA : Ints w Aa na a) (hac : na ≤ ca) (hn4 : n ≤ 17592186043000) :
    Calls Try.prog 29 #[.slice A n c, .slice Aa na ca] w fun e w' => (∃ v, e = .returned (.tuple #[v, .bool (woOk l a)]) ∧ OwnS w' w.heap.size 3 v (woL l a).length (woL l a)) ∧ Below w.heap.size w w' := by
  have hln := h.len
  have hle := h.le
  have hale := hA.le
  have hm := run_make_room Try.underlying22 Try.infoInt (n := n) (by omega)
  have h1 := ((Sep.nil w).old h).room 3 n (by omega)
  have HSL := Lib.hid hln
  have HA0 := Lib.hid hA
  clear hln hA h
  go_enter Try.func29, Try.ntmps29
  go_upto_region 2 with fail
  generalize w.alloc (.cells (noughts n) 3) = w1 at *
  have H := Lib.hid h1
  clear h1 hm
  go_wp2_with fail
  go_loopw [14, 6, 1] (fun kv vs xs wr => ∃ (j : Nat) (vx : Value) (acc ax : List Int) (Ax : Option Addr) (nx cx : Nat), vx = vs ∧ .slice Ax nx cx = xs ∧ kv = .int .i64 j ∧ j ≤ n ∧ nx ≤ cx ∧ acc.length ≤ j ∧ Ints w Ax nx ax ∧ WoAt l a j acc ax ∧ Sep w wr [.own 3 vx acc.length acc, .ints A n l]) (fun kv _ _ _ => n - (intOf kv).toNat)
  case atStart => exact ⟨0, _, [], a, Aa, na, ca, rfl, rfl, rfl, by omega, hac, Nat.le_refl _, HA0.out, WoAt.start l a, H.out⟩
  case round =>
    clear H
    obtain ⟨j, vx, acc, ax, Ax, nx, cx, rfl, rfl, rfl, hj, hxc, hal, hI, hwo, hS⟩ := hrel
    have H := Lib.hid hS
    have HW := Lib.hid hwo
    have HXL := Lib.hid hI.len
    have HI := Lib.hid hI
    clear hS hwo hI
    by_cases hlt : j < n
    · obtain ⟨sa, y, hsA, _, hy, hcy, hfy⟩ := (H.out.oldInts 1 rfl).at_ (k := j) hlt
      subst hsA
      have HY := Lib.hid hy
      have HFY := Lib.hid hfy
      clear hy hfy
      by_cases hx0 : nx = 0
      · subst hx0
        have HW2 := Lib.hid (HW.out.miss HY.out (by rw [List.eq_nil_of_length_eq_zero HXL.out]; simp))
        go_wp2_with (at_builtin; refine wpList_append_sep rfl (.tmp 31) (.tmp 33) 22 3 rfl Try.underlying22 Try.infoInt H.out 0 rfl rfl y HFY.out _ rfl ?c1 ?_)
        case c1 => omega
        intro v' w' h'
        have H8 := Lib.hid h'
        clear h'
        go_wp2
        go_roundw
        case rel => exact ⟨j + 1, _, acc ++ [y], ax, _, _, _, rfl, rfl, by go_num, by omega, hxc, by rw [List.length_append, List.length_singleton]; omega, HI.out, HW2.out, by rw [List.length_append, List.length_singleton]; exact H8.out⟩
        case measure => simp [intOf]; omega
      · obtain ⟨xa, z, hxA, _, hz, hcz, hfz⟩ := (H.out.oldI HI.out).at_ (k := 0) (by omega)
        subst hxA
        rw [show xa.add 0 = xa by cases xa; rfl] at hcz
        have d1 : decide (0 < nx) = true := by simp; omega
        have HZ := Lib.hid hz
        clear hz hfz
        by_cases hzj : z = j
        · subst hzj
          obtain ⟨A2, hsl, hI2⟩ := run_dropI HI.out (by omega) hxc
          have HI2 := Lib.hid hI2
          have HW2 := Lib.hid (HW.out.hit HY.out HZ.out)
          clear hI2
          go_wp2
          go_roundw
          case rel => exact ⟨j + 1, _, acc, ax.drop 1, _, _, _, rfl, rfl, by go_num, by omega, by omega, by omega, HI2.out, HW2.out, H.out⟩
          case measure => simp [intOf]; omega
        · have d2 : (z == (j : Int)) = false := by simpa using hzj
          have HZJ := Lib.hid hzj
          clear hzj
          have HW2 := Lib.hid (HW.out.miss HY.out (by rw [HZ.out]; intro hc; injection hc with hc; exact HZJ.out hc))
          go_wp2_with (at_builtin; refine wpList_append_sep rfl (.tmp 31) (.tmp 33) 22 3 rfl Try.underlying22 Try.infoInt H.out 0 rfl rfl y HFY.out _ rfl ?c1 ?_)
          case c1 => omega
          intro v' w' h'
          have H8 := Lib.hid h'
          clear h'
          go_wp2
          go_roundw
          case rel => exact ⟨j + 1, _, acc ++ [y], ax, _, _, _, rfl, rfl, by go_num, by omega, hxc, by rw [List.length_append, List.length_singleton]; omega, HI.out, HW2.out, by rw [List.length_append, List.length_singleton]; exact H8.out⟩
          case measure => simp [intOf]; omega
    · have HF := Lib.hid (HW.out.fin (by have := HSL.out; omega))
      by_cases hx0 : nx = 0
      · subst hx0
        have HB := Lib.hid (show woOk l a = true by rw [woOk, HF.out]; exact decide_eq_true (List.eq_nil_of_length_eq_zero HXL.out))
        have HL := Lib.hid (show woL l a = acc by rw [woL, HF.out])
        go_wp2
        go_ret2
        rw [HB.out, HL.out]
        exact ⟨⟨_, rfl, H.out.ownS 0 rfl⟩, H.out.base⟩
      · have d1 : ((nx : Int) == 0) = false := by simp; omega
        have HB := Lib.hid (show woOk l a = false by rw [woOk, HF.out]; exact decide_eq_false (fun hc => hx0 (by have hc : ax = [] := hc; have := HXL.out; rw [hc] at this; simpa using this.symm)))
        clear hx0
        have HL := Lib.hid (show woL l a = acc by rw [woL, HF.out])
        go_wp2
        go_ret2
        rw [HB.out, HL.out]
        exact ⟨⟨_, rfl, H.out.ownS 0 rfl⟩, H.out.base⟩
theorem tFillOk {w : World} {A : Option Addr} {n c : Nat} {s : List Int} (x : Int) (h : Ints w A n s) (hx : Fits x) (hr : Sh.right s = true) :
    Calls Try.prog 30 #[.slice A n c, .int .i64 x] w fun e w' => (∃ v, e = .returned (.tuple #[v, .int .i64 0]) ∧ OTen w' w.heap.size v s (List.replicate (Sh.size s).toNat x)) ∧ Below w.heap.size w w' := by
  have := tFill_any (c := c) x h hx
  rwa [fillErr_true hr, fillS_true hr, fillD_true hr] at this
theorem tFillNo {w : World} {A : Option Addr} {n c : Nat} {s : List Int} (x : Int) (h : Ints w A n s) (hx : Fits x) (hr : Sh.right s = false) :
    Calls Try.prog 30 #[.slice A n c, .int .i64 x] w fun e w' => (∃ v, e = .returned (.tuple #[v, .int .i64 13]) ∧ OTen w' w.heap.size v [] []) ∧ Below w.heap.size w w' := by
  have := tFill_any (c := c) x h hx
  rwa [fillErr_false hr, fillS_false hr, fillD_false hr] at this
set_option maxRecDepth 100000 in
set_option maxHeartbeats 6400000 in
theorem fdDo_any {w : World} {v : Value} {Aa : Option Addr} {na ca : Nat} {s d a : List Int} (how : Int) (h : Ten w v s d) (hA : Ints w Aa na a) (hac : na ≤ ca := by omega) :
    Calls Try.prog 15 #[.int .i64 how, v, .slice Aa na ca] w fun e w' => (∃ u, e = .returned (.tuple #[u, .int .i64 (foldR how s d a).1]) ∧ OTen w' w.heap.size u (foldR how s d a).2.1 (foldR how s d a).2.2) ∧ Below w.heap.size w w' := by
  cases hh : howOk how with
  | false =>
    obtain ⟨A, n, c, B, m, e, rfl, hnc, hme, hI, hJ⟩ := h
    have h1 := ((Sep.nil w).allocBox w.heap.size 26 [.slice A n c, .slice B m e] rfl).allocBox (w.heap.size + 1) 26 [.slice none 0 0, .slice none 0 0] (by simp)
    have HX := Lib.hid (foldR_how (s := s) (d := d) (axes := a) hh)
    have C1 := fdRight_any how ((w.alloc (.cells #[.slice A n c, .slice B m e] 26)).alloc (.cells #[.slice none 0 0, .slice none 0 0] 26))
    rw [hh] at C1
    go_enter Try.func15, Try.ntmps15
    go_upto_region 1 with fail
    generalize (w.alloc (.cells #[.slice A n c, .slice B m e] 26)).alloc (.cells #[.slice none 0 0, .slice none 0 0] 26) = W at *
    have H := Lib.hid h1
    clear h1 hh
    go_wp2_with fail
    refine C1.mono ?_; rintro e1 w1 ⟨rfl, rfl⟩
    have r0 := H.out.cell 0 0 rfl rfl
    have r1 := H.out.cell 0 1 rfl rfl
    have fr0 := H.out.frozenBox 0 0 rfl
    have fr1 := H.out.frozenBox 0 1 rfl
    clear C1
    go_wp2
    rw [HX.out]
    exact sep_ret2 ((H.out.setBox 0 0 (.slice none 0 0) rfl).setBox 0 1 (.slice none 0 0) rfl) 0 rfl (z := .int .i64 1) Try.results15 rfl rfl rfl ⟨⟨_, rfl, _, _, 0, 0, rfl, OwnS.nil_ _ _ _, OwnS.nil_ _ _ _⟩, ((H.out.setBox 0 0 (.slice none 0 0) rfl).setBox 0 1 (.slice none 0 0) rfl).base⟩
  | true =>
    have HH := Lib.hid hh
    clear hh
    obtain ⟨A, n, c, B, m, e, rfl, hnc, hme, hI, hJ⟩ := h
    have h1 := (((((Sep.nil w).old hA).old hJ).old hI).allocBox w.heap.size 26 [.slice A n c, .slice B m e] rfl).allocBox (w.heap.size + 1) 26 [.slice none 0 0, .slice none 0 0] (by simp)
    have hsl := hI.len
    have hnle := hI.le
    have hmle := hJ.le
    have HFD := Lib.hid hJ.fit
    have HDL := Lib.hid hJ.len
    have hla := hA.len
    have hlea := hA.le
    go_enter Try.func15, Try.ntmps15
    go_upto_region 1 with fail
    generalize (w.alloc (.cells #[.slice A n c, .slice B m e] 26)).alloc (.cells #[.slice none 0 0, .slice none 0 0] 26) = W at *
    have H := Lib.hid h1
    clear h1 hI hJ hA
    have HSL := Lib.hid hsl
    clear hsl
    have HLa := Lib.hid hla
    clear hla
    have hT := ten_mk (H.out.oldInts 2 rfl) hnc (H.out.oldInts 3 rfl) hme
    have C1 := tRight_any hT
    have HT := Lib.hid hT
    clear hT
    have t0 := H.out.cell 1 0 rfl rfl
    have t1 := H.out.cell 1 1 rfl rfl
    have CH := fdRight_any how W
    rw [HH.out] at CH
    go_wp2_with fail
    refine CH.mono ?_; rintro e0 w0 ⟨rfl, rfl⟩
    clear CH
    go_wp2_with fail
    cases hr : tenRight s d with
    | false =>
      rw [hr] at C1
      refine C1.mono ?_; rintro e2 w2 ⟨rfl, hb2⟩
      replace H := Lib.hid (H.out.below hb2)
      have HX := Lib.hid (foldR_shape (axes := a) HH.out hr)
      have r0 := H.out.cell 0 0 rfl rfl
      have r1 := H.out.cell 0 1 rfl rfl
      have fr0 := H.out.frozenBox 0 0 rfl
      have fr1 := H.out.frozenBox 0 1 rfl
      clear hb2 hr C1 t0 t1
      go_wp2
      rw [HX.out]
      exact sep_ret2 ((H.out.setBox 0 0 (.slice none 0 0) rfl).setBox 0 1 (.slice none 0 0) rfl) 0 rfl (z := .int .i64 13) Try.results15 rfl rfl rfl ⟨⟨_, rfl, _, _, 0, 0, rfl, OwnS.nil_ _ _ _, OwnS.nil_ _ _ _⟩, ((H.out.setBox 0 0 (.slice none 0 0) rfl).setBox 0 1 (.slice none 0 0) rfl).base⟩
    | true =>
      rw [hr] at C1
      refine C1.mono ?_; rintro e2 w2 ⟨rfl, hb2⟩
      replace H := Lib.hid (H.out.below hb2)
      have HRT := Lib.hid hr
      clear hb2 hr C1 t0 t1 HT
      have hn4 : n ≤ 4 := by have := (right_len HRT.out).1; have := HSL.out; omega
      have t0 := H.out.cell 1 0 rfl rfl
      have t1 := H.out.cell 1 1 rfl rfl
      have C2 := fdWithout_any (c := c) (H.out.oldInts 2 rfl) (H.out.oldInts 4 rfl) hac (by omega)
      go_wp2_with fail
      refine C2.mono ?_; rintro e3 w3 ⟨⟨vz, rfl, hO⟩, hb3⟩
      clear C2 t0 t1
      by_cases hri : Rises a s.length
      · obtain ⟨q1, q2⟩ := wo_yes hri
        rw [q2] at hO
        rw [q1]
        have HRI := Lib.hid hri
        clear hri q1 q2
        obtain ⟨Z, hZ⟩ : ∃ Z, rest a s = Z := ⟨_, rfl⟩
        obtain ⟨nz, hnz⟩ : ∃ nz, Z.length = nz := ⟨_, rfl⟩
        rw [hZ, hnz] at hO
        have HZ := Lib.hid hZ
        have HNZ := Lib.hid hnz
        have hnz4 : nz ≤ n := by rw [← hnz, ← hZ]; have := rest_length_le a s 0; have h2 := HSL.out; unfold rest; omega
        obtain ⟨Az, cz, rfl, hcz, _, _⟩ := hO.form
        replace H := Lib.hid (H.out.addOwn hb3 hO)
        clear hO hb3 hZ hnz
        have CN := fun w => fdNone_any how w
        go_wp2_with fail
        refine (CN _).mono ?_; rintro e6 w6 ⟨rfl, rfl⟩
        clear CN
        cases ho : Sh.right Z with
        | false =>
          go_wp2_with fail
          refine (tFillNo (noneF how) (H.out.ownInts 0 rfl).2.2 (noneF_fits how) ho).mono ?_; rintro e4 w4 ⟨⟨u, rfl, hu⟩, hb4⟩
          have HX := Lib.hid (foldR_shape2 HH.out HRT.out HRI.out (by rw [HZ.out]; exact ho))
          obtain ⟨S1, ns, sc, D1, N, dc, rfl, hs1, hd1, hsc, hdc, hNle, h5⟩ := H.out.addTen hb4 hu
          have h6 := h5.allocBox w4.heap.size 26 [.slice S1 ns sc, .slice D1 N dc] rfl
          clear hu hb4 h5 hd1 hs1 ho
          go_upto_region 9 with fail
          generalize w4.alloc (.cells #[.slice S1 ns sc, .slice D1 N dc] 26) = w5 at *
          replace H := Lib.hid h6
          clear h6
          have r0 := H.out.cell 4 0 rfl rfl
          have r1 := H.out.cell 4 1 rfl rfl
          have fr0 := H.out.frozenBox 4 0 rfl
          have fr1 := H.out.frozenBox 4 1 rfl
          go_wp2
          rw [HX.out]
          exact sep_ret2 ((H.out.setBox 4 0 (.slice none 0 0) rfl).setBox 4 1 (.slice none 0 0) rfl) 4 rfl (z := .int .i64 13) Try.results15 rfl rfl rfl ⟨⟨_, rfl, _, _, 0, 0, rfl, OwnS.nil_ _ _ _, OwnS.nil_ _ _ _⟩, ((H.out.setBox 4 0 (.slice none 0 0) rfl).setBox 4 1 (.slice none 0 0) rfl).base⟩
        | true =>
          have HRO := Lib.hid ho
          have HRZ := Lib.hid (show Sh.right (rest a s) = true by rw [HZ.out]; exact ho)
          go_wp2_with fail
          refine (tFillOk (noneF how) (H.out.ownInts 0 rfl).2.2 (noneF_fits how) ho).mono ?_; rintro e4 w4 ⟨⟨u, rfl, hu⟩, hb4⟩
          obtain ⟨S1, ns, sc, D1, N, dc, rfl, hs1, hd1, hsc, hdc, hNle, h5⟩ := H.out.addTen hb4 hu
          rw [List.length_replicate] at hd1
          rw [hd1] at h5
          have HN := Lib.hid hd1
          have HQ := Lib.hid (foldR_ok HH.out HRT.out HRI.out HRZ.out)
          have h6 := h5.allocBox w4.heap.size 26 [.slice S1 ns sc, .slice D1 N dc] rfl
          clear hu hb4 h5 hd1 hs1 ho
          go_upto_region 11 with fail
          generalize w4.alloc (.cells #[.slice S1 ns sc, .slice D1 N dc] 26) = w5 at *
          generalize w4.heap.size = gt at *
          replace H := Lib.hid h6
          clear h6
          have t0 := H.out.cell 5 0 rfl rfl
          have t1 := H.out.cell 5 1 rfl rfl
          go_wp2_with fail
          clear t0 t1
          go_loopw [49] (fun kv wr => ∃ i : Nat, kv = .int .i64 i ∧ i ≤ m ∧ Sep w wr [.box gt 26 [.slice S1 ns sc, .slice D1 N dc], .own 3 (.slice S1 ns sc) ns Z, .own 2 (.slice D1 N dc) N (foldUp how s d a i), .own 3 (.slice Az nz cz) nz Z, .box (w.heap.size + 1) 26 [.slice none 0 0, .slice none 0 0], .box w.heap.size 26 [.slice A n c, .slice B m e], .ints A n s, .ints B m d, .ints Aa na a]) (fun kv _ => m - (intOf kv).toNat)
          case atStart => exact ⟨0, rfl, by omega, by rw [foldUp_zero, HZ.out, HN.out]; exact H.out⟩
          case round =>
            clear H
            obtain ⟨i, rfl, hile, hS⟩ := hrel
            have H := Lib.hid hS
            clear hS
            by_cases hli : i < m
            · have hiz : (i : Int) < Sh.size s := by have := len_right HRT.out; have := HDL.out; omega
              obtain ⟨bd, X, hBA, _, hX, hcX, hfX⟩ := (H.out.oldInts 7 rfl).at_ (k := i) hli
              subst hBA
              have HXX := Lib.hid hX
              have HFX := Lib.hid hfX
              clear hX hfX
              have t0 := H.out.cell 5 0 rfl rfl
              have t1 := H.out.cell 5 1 rfl rfl
              go_wp2_with fail
              refine (place_own i (H.out.oldInts 6 rfl) ⟨by omega, by omega⟩).mono ?_; rintro e7 w7 ⟨⟨v, n7, rfl, hO⟩, hb7⟩
              obtain ⟨A7, c7, rfl, hc7, _, _⟩ := hO.form
              obtain ⟨_, hpl, _, _⟩ := placeOf_of hiz
              have hp7 : n = n7 := by have := hO.len; have := HSL.out; omega
              replace H := Lib.hid (H.out.addOwn hb7 hO)
              obtain ⟨P, hP⟩ : ∃ P, Sh.placeOf s i = P := ⟨_, rfl⟩
              rw [hP] at H hpl
              have HP := Lib.hid hP
              have HPL := Lib.hid (show P.length = s.length from hpl)
              subst hp7
              clear hb7 hO hP hpl hc7 t0 t1 hcX
              have C3 := fdWithout_any (c := c7) ((H.out.ownInts 0 rfl).2.2) (H.out.oldInts 9 rfl) hac (by omega)
              go_wp2_with fail
              refine C3.mono ?_; rintro e8 w8 ⟨⟨vq, rfl, hO⟩, hb8⟩
              clear C3
              obtain ⟨q1, q2⟩ := wo_yes (l := P) (a := a) (by rw [HPL.out]; exact HRI.out)
              rw [q2] at hO
              rw [q1]
              have hfw := fold_within HRZ.out hiz
              rw [HP.out, HZ.out] at hfw
              obtain ⟨hw1, hw2, hw3, hw4⟩ := hfw
              obtain ⟨Q, hQ⟩ : ∃ Q, rest a P = Q := ⟨_, rfl⟩
              have hql : Q.length = nz := by rw [← hQ, hw1]; exact HNZ.out
              rw [hQ, hql] at hO
              rw [hQ] at hw1 hw2 hw3
              obtain ⟨Aq, cq, rfl, _, _, _⟩ := hO.form
              replace H := Lib.hid (H.out.addOwn hb8 hO)
              clear hO hb8 hQ hql q1 q2
              obtain ⟨K, hK⟩ : ∃ K, foldIx s a i = K := ⟨_, rfl⟩
              rw [hK] at hw3 hw4
              have hKN : K < N := by have := HN.out; omega
              have HK := Lib.hid hK
              have CI := index_any (c := cz) (d := cq) ((H.out.ownInts 5 rfl).2.2) ((H.out.ownInts 0 rfl).2.2)
              rw [← hw3] at CI
              clear hK hw1 hw2 hw3 hw4
              go_wp2_with fail
              refine CI.mono ?_; rintro e8 w9 ⟨rfl, rfl⟩
              clear CI
              obtain ⟨gb, cb, hv, hO⟩ := (H.out.ownS 4 rfl).own (by omega)
              injection hv with hv1 _ hv3
              subst hv1
              subst hv3
              obtain ⟨z, hz⟩ := getElem_of (l := foldUp how s d a i) (k := K) (by rw [foldUp_length, HZ.out]; have := HN.out; omega)
              have hfz : Fits z := foldUp_fits HFD.out i z (List.mem_of_getElem? hz)
              have HST := Lib.hid (show (foldUp how s d a i).set K (putF how z X) = foldUp how s d a (i + 1) by rw [foldUp_step HXX.out, foldOne, HK.out, List.getD_eq_getElem?_getD, hz]; rfl)
              have hcz1 := hO.cell hz
              have hff := hO.frozen K
              have h9 := H.out.store 4 K (x := putF how z X) (putF_fits how hfz HFX.out) rfl
              rw [HST.out] at h9
              have HS9 := Lib.hid h9.drew
              have o0 := H.out.cell 2 0 rfl rfl
              have o1 := H.out.cell 2 1 rfl rfl
              have CP := fun w => fdStep_any how z X w
              clear h9 hO hz hfz
              go_upto_region 16 with fail
              have hcz2 : w8.drew.cell? ⟨gb, K, none⟩ = some (.int .i64 z) := hcz1
              have hff1 : w8.drew.frozen? ⟨gb, K, none⟩ = false := hff
              refine wp_region_still_tail 12 (by kernel_rfl) (by kernel_rfl) ?_
              simp only [List.take_succ_cons, List.take_zero, List.drop_succ_cons, List.drop_zero]
              repeat still_step
              still_call ((CP _).mono fun _ _ ⟨h, g⟩ => ⟨h, g.symm⟩)
              repeat still_step
              refine wpStill_nil ?_
              change wpList _ _ _ _ _ w8.drew
              clear o0 o1
              go_wp2
              go_roundw
              case rel => exact ⟨i + 1, by go_num, by omega, HS9.out.sub [2, 3, 4, 5, 6, 7, 8, 9, 10] rfl (by decide)⟩
              case measure => simp [intOf]; omega
            · have him : m = i := by omega
              subst him
              have HQ3 := Lib.hid (show foldR how s d a = (0, Z, foldUp how s d a m) by rw [HQ.out, HZ.out, foldD, HDL.out])
              have o0 := H.out.cell 0 0 rfl rfl
              have o1 := H.out.cell 0 1 rfl rfl
              have r0 := H.out.cell 4 0 rfl rfl
              have r1 := H.out.cell 4 1 rfl rfl
              have fr0 := H.out.frozenBox 4 0 rfl
              have fr1 := H.out.frozenBox 4 1 rfl
              go_wp2
              rw [HQ3.out]
              exact sep_ret2 ((H.out.setBox 4 0 (.slice S1 ns sc) rfl).setBox 4 1 (.slice D1 N dc) rfl) 4 rfl (z := .int .i64 0) Try.results15 rfl rfl rfl ⟨⟨_, rfl, _, _, ns, N, rfl, ((H.out.setBox 4 0 (.slice S1 ns sc) rfl).setBox 4 1 (.slice D1 N dc) rfl).ownS 1 rfl, ((H.out.setBox 4 0 (.slice S1 ns sc) rfl).setBox 4 1 (.slice D1 N dc) rfl).ownS 2 rfl⟩, ((H.out.setBox 4 0 (.slice S1 ns sc) rfl).setBox 4 1 (.slice D1 N dc) rfl).base⟩
      · have HX := Lib.hid (foldR_arg HH.out HRT.out hri)
        rw [wo_no hri]
        replace H := Lib.hid (H.out.addOwn hb3 hO)
        clear hri hO hb3
        have r0 := H.out.cell 1 0 rfl rfl
        have r1 := H.out.cell 1 1 rfl rfl
        have fr0 := H.out.frozenBox 1 0 rfl
        have fr1 := H.out.frozenBox 1 1 rfl
        go_wp2
        rw [HX.out]
        exact sep_ret2 ((H.out.setBox 1 0 (.slice none 0 0) rfl).setBox 1 1 (.slice none 0 0) rfl) 1 rfl (z := .int .i64 1) Try.results15 rfl rfl rfl ⟨⟨_, rfl, _, _, 0, 0, rfl, OwnS.nil_ _ _ _, OwnS.nil_ _ _ _⟩, ((H.out.setBox 1 0 (.slice none 0 0) rfl).setBox 1 1 (.slice none 0 0) rfl).base⟩
end Go.Proofs.Ytgdgpggicgfddaa
