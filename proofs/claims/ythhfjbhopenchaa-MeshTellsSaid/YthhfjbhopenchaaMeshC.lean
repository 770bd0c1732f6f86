/- Contracts of package mesh, over the landed code. -/
import Derived.Test.YthhfjbhopenchaaMhD
import Derived.Test.YthhfjbhopenchaaRef14
namespace Go.Proofs.Ythhfjbhopenchaa
open Go.RowKit

/-- 'l[k:]'. -/
def dropM (A : Option Addr) (c k : Nat) : Option Addr := if c = k then A else A.map (·.add k)
theorem Ints.dropM {w : World} {A : Option Addr} {n : Nat} {xs : List Int} (h : Ints w A n xs) {k c : Nat} (hk : k ≤ n) (hc : n ≤ c) : Ints w (dropM A c k) (n - k) (xs.drop k) := h.drop hk hc
set_option maxRecDepth 100000 in
theorem run_dropM {w1 : World} {A : Option Addr} {n c k : Nat} {xs : List Int} (h : Ints w1 A n xs) (hk : k ≤ n) (hc : n ≤ c) : ∀ w, (Instr.slice 24 (.slice A n c) (some (.int .i64 (k : Int))) none none).run Try.prog w = .ok (.slice (dropM A c k) (n - k) (c - k)) w := by
  intro w
  have hu : Try.prog.underlying 24 = some (.slice 3) := by kernel_rfl
  cases A with
  | none =>
    have h0 : n = 0 := by
      rcases Nat.eq_zero_or_pos n with e | e
      · exact e
      · obtain ⟨a, e', _⟩ := h.2.2.2 e; cases e'
    subst h0
    obtain rfl : k = 0 := by omega
    by_cases hcl : c = 0
    · subst hcl
      go_simp
      rw [dropM, if_pos rfl]
    · go_simp
      rw [dropM, if_neg hcl]; rfl
  | some a =>
    by_cases hcl : c = k
    · subst hcl
      go_simp
      rw [dropM, if_pos rfl]
    · go_simp
      rw [dropM, if_neg hcl]; rfl
theorem ret_twoM {k l : IntKind} {a b c d : Int} (h : a = b) (g : c = d) : Ending.returned (.tuple #[.int k a, .int l c]) = .returned (.tuple #[.int k b, .int l d]) := by rw [h, g]
theorem MakesL.makes {w w' : World} {t : TypeId} {xs : List Int} {e : Ending} (h : MakesL w t xs e w') : Makes w xs e w' := by
  obtain ⟨⟨v, n, rfl, hO⟩, hb⟩ := h
  obtain ⟨A, c, rfl, hc, hI, _⟩ := hO.form
  exact ⟨⟨A, n, c, rfl, hc, hI⟩, hb⟩
set_option maxRecDepth 100000 in
set_option maxHeartbeats 800000 in
theorem mDevices_eq {w : World} {A : Option Addr} {n c : Nat} {xs : List Int} (h : Ints w A n xs) :
    Calls Try.prog 12 #[.slice A n c] w fun e w' => e = .returned (.int .i64 (Mh.size xs)) ∧ w = w' := by
  have hn := h.len
  have hle := h.le
  by_cases h3 : n ≤ 3
  · have H2 := Lib.hid hn; clear hn
    go_enter Try.func12, Try.ntmps12
    go_wp2
    go_loop [3, 11] (fun p i => ∃ k : Nat, k ≤ n ∧ i = .int .i64 k ∧ ∃ P : Int, Sh.pr (xs.take k) = P ∧ p = .int .i64 P ∧ 1 ≤ P ∧ P ≤ 8 ∧ ∀ x ∈ xs.take k, 1 ≤ x ∧ x ≤ 8) (fun _ i => n - (intOf i).toNat)
    case atStart => exact ⟨0, Nat.zero_le _, rfl, 1, rfl, rfl, by omega, by omega, by simp⟩
    case round =>
      obtain ⟨k, hk, rfl, P, hP, rfl, hp1, hp8, hd⟩ := hrel
      have HP := Lib.hid hP; clear hP
      have HD := Lib.hid hd; clear hd
      by_cases hlt : k < n
      · obtain ⟨ad, x, rfl, hb, hx, hc, hf⟩ := h.at_ hlt
        have H := Lib.hid hx; clear hx
        have hq0 : 0 ≤ 8 / P := Int.ediv_nonneg (by omega) (by omega)
        have hq8 : 8 / P ≤ 8 := Int.ediv_le_self _ (by omega)
        by_cases hx1 : x < 1
        · have HR := Lib.hid (Mh.size_not (Mh.dev_out H.out HP.out (Or.inl hx1)))
          go_wp2
          go_ret
          exact ⟨ret_int HR.out.symm, rfl⟩
        · by_cases hx2 : 8 / P < x
          · have HR := Lib.hid (Mh.size_not (Mh.dev_out H.out HP.out (Or.inr hx2)))
            go_wp2
            go_ret
            exact ⟨ret_int HR.out.symm, rfl⟩
          · have hm := Int.mul_le_of_le_ediv (a := x) (b := 8) (c := P) (by omega) (by omega)
            rw [Int.mul_comm] at hm
            have hm1 : 1 ≤ P * x := by
              have h3 := Int.mul_le_mul_of_nonneg_left (show 1 ≤ x by omega) (show 0 ≤ P by omega); omega
            have hall : ∀ y ∈ xs.take (k + 1), 1 ≤ y ∧ y ≤ 8 := by
              intro y hy
              rw [List.take_add_one, H.out] at hy
              simp at hy
              rcases hy with hy | rfl
              · exact HD.out y hy
              · omega
            have HA := Lib.hid hall; clear hall
            go_wp2
            go_round
            case rel => exact ⟨k + 1, by omega, by go_num, _, by rw [Sh.pr_take _ H.out, HP.out], rfl, hm1, hm, HA.out⟩
            case measure => simp [intOf]; omega
      · have ht : xs.take k = xs := List.take_of_length_le (by have := H2.out; omega)
        have HR := Lib.hid (show Mh.size xs = P by
          have h9 := HP.out
          have h8 := HD.out
          rw [ht] at h9 h8
          rw [Mh.dev_end (by have := H2.out; omega) h8 (by omega), h9])
        clear ht
        go_wp2
        go_ret
        exact ⟨ret_int HR.out.symm, rfl⟩
  · have HR := Lib.hid (Mh.size_not (Mh.not_right_long (s := xs) (by omega)))
    have H2 := Lib.hid hn; clear hn
    go_enter Try.func12, Try.ntmps12
    go_wp2
    go_ret
    exact ⟨ret_int HR.out.symm, rfl⟩
theorem mDevices_any {w : World} {A : Option Addr} {n c : Nat} {xs : List Int} (h : Ints w A n xs) :
    Calls Try.prog 12 #[.slice A n c] w fun e w' => e = .returned (.int .i64 (Mh.size xs)) ∧ Below w.heap.size w w' :=
  (mDevices_eq h).mono fun _ _ h => ⟨h.1, h.2 ▸ Below.refl _ _⟩
set_option maxRecDepth 100000 in
set_option maxHeartbeats 400000 in
theorem mRight_eq {w : World} {A : Option Addr} {n c : Nat} {xs : List Int} (h : Ints w A n xs) :
    Calls Try.prog 18 #[.slice A n c] w fun e w' => e = .returned (.bool (Mh.right xs)) ∧ w = w' := by
  have HR := Lib.hid (Mh.right_size xs)
  have C := mDevices_eq (c := c) h
  obtain ⟨S, hS⟩ : ∃ S, Mh.size xs = S := ⟨_, rfl⟩
  rw [hS] at C
  have HS := Lib.hid hS; clear hS
  go_enter Try.func18, Try.ntmps18
  go_wp2_with (go_at_call 12; refine (C).mono ?_; rintro e w' ⟨rfl, rfl⟩)
  go_ret
  exact ⟨ret_bool (by rw [HR.out, HS.out]), rfl⟩
theorem mRight_any {w : World} {A : Option Addr} {n c : Nat} {xs : List Int} (h : Ints w A n xs) :
    Calls Try.prog 18 #[.slice A n c] w fun e w' => e = .returned (.bool (Mh.right xs)) ∧ Below w.heap.size w w' :=
  (mRight_eq h).mono fun _ _ h => ⟨h.1, h.2 ▸ Below.refl _ _⟩
set_option maxRecDepth 100000 in
set_option maxHeartbeats 400000 in
theorem mStands {w : World} {A : Option Addr} {n c : Nat} {xs : List Int} (d : Int) (h : Ints w A n xs) :
    Calls Try.prog 24 #[.slice A n c, .int .i64 d] w fun e w' => e = .returned (.bool (decide (0 ≤ d ∧ d < Mh.size xs))) ∧ w = w' := by
  have C := mDevices_eq (c := c) h
  obtain ⟨S, hS⟩ : ∃ S, Mh.size xs = S := ⟨_, rfl⟩
  rw [hS] at C ⊢
  clear hS
  by_cases h0 : 0 ≤ d
  · have e : decide (0 ≤ d ∧ d < S) = decide (d < S) := by simp [h0]
    rw [e]
    clear e
    go_enter Try.func24, Try.ntmps24
    go_wp2_with (go_at_call 12; refine (C).mono ?_; rintro e w' ⟨rfl, rfl⟩)
    go_ret
    exact ⟨rfl, rfl⟩
  · have e : decide (0 ≤ d ∧ d < S) = false := by simp [h0]
    rw [e]
    clear e
    go_enter Try.func24, Try.ntmps24
    go_wp2_with (go_at_call 12; refine (C).mono ?_; rintro e w' ⟨rfl, rfl⟩)
    go_ret
    exact ⟨rfl, rfl⟩
set_option maxRecDepth 100000 in
set_option maxHeartbeats 400000 in
theorem mGoes {w : World} {A : Option Addr} {n c : Nat} {xs : List Int} (d : Int) (h : Ints w A n xs) :
    Calls Try.prog 25 #[.slice A n c, .int .i64 d] w fun e w' => e = .returned (.bool (decide (0 ≤ d ∧ d < xs.length))) ∧ w = w' := by
  have hle := h.le
  rw [h.len]
  clear h
  by_cases h0 : 0 ≤ d
  · have e : decide (0 ≤ d ∧ d < (n : Int)) = decide (d < n) := by simp [h0]
    rw [e]
    clear e
    go_enter Try.func25, Try.ntmps25
    go_wp2
    go_ret
    exact ⟨rfl, rfl⟩
  · have e : decide (0 ≤ d ∧ d < (n : Int)) = false := by simp [h0]
    rw [e]
    clear e
    go_enter Try.func25, Try.ntmps25
    go_wp2
    go_ret
    exact ⟨rfl, rfl⟩
set_option maxRecDepth 100000 in
set_option maxHeartbeats 800000 in
theorem mLine {w : World} {A : Option Addr} {n c k : Nat} {x d P : Int} {xs : List Int} (h : Ints w A n xs) (hac : n ≤ c) (hx : xs[k]? = some x) (h0 : 0 ≤ d) (h1 : d < Mh.size xs) (hP : Sh.pd (xs.drop (k + 1)) = P) :
    Calls Try.prog 26 #[.slice A n c, .int .i64 d, .int .i64 k] w fun e w' => e = .returned (.tuple #[.int .i64 (d - d / P % x * P), .int .i64 P]) ∧ ∃ q, w' = w.drewN q := by
  obtain ⟨b1, b2, b3, b4, b5⟩ := Mh.line_bd h0 h1 hx
  rw [hP] at b2 b3 b4 b5
  have hkn : k < n := by have := (List.getElem?_eq_some_iff.1 hx).1; have := h.len; omega
  have hle := h.le
  have hsz := (Mh.size_bd xs).2
  obtain ⟨ad, x9, rfl, hb, hx9, hc, hf⟩ := h.at_ hkn
  obtain rfl : x9 = x := by rw [hx] at hx9; injection hx9 with hx9; exact hx9.symm
  have HRN := Lib.hid (run_dropM h (k := k + 1) (by omega) hac)
  have hI2 := h.dropM (k := k + 1) (by omega) hac
  have HR := Lib.hid (Mh.size_right h0 h1)
  have HPD := Lib.hid hP
  obtain ⟨A2, hA2⟩ : ∃ A2, dropM (some ad) c (k + 1) = A2 := ⟨_, rfl⟩
  rw [hA2] at hI2
  have hrun := HRN.out
  rw [hA2] at hrun
  obtain ⟨ys, hys⟩ : ∃ ys, xs.drop (k + 1) = ys := ⟨_, rfl⟩
  have HYS := Lib.hid hys
  rw [hys] at hI2
  obtain ⟨r, hr⟩ : ∃ r, n - (k + 1) = r := ⟨_, rfl⟩
  obtain ⟨c2, hc2⟩ : ∃ r, c - (k + 1) = r := ⟨_, rfl⟩
  rw [hr] at hI2
  rw [hr, hc2, show ((k + 1 : Nat) : Int) = (k : Int) + 1 from by omega] at hrun
  have hrle := hI2.le
  have HI2 := Lib.hid hI2
  have HYR := Lib.hid fun (j : Nat) => (show 1 ≤ Sh.pr (ys.take j) ∧ Sh.pr (ys.take j) ≤ 8 by
    have h2 := (Mh.right_cut HR.out (k + 1)).2
    have h3 := (Mh.right_iff.1 HR.out).2.1
    rw [hys, ← List.take_append_drop j ys, Sh.pd_append] at h2
    have ha := Mh.pd_pos fun x hx => h3 x (List.mem_of_mem_drop (i := k + 1) (by rw [hys]; exact List.mem_of_mem_take (i := j) hx))
    have hb := Mh.pd_pos fun x hx => h3 x (List.mem_of_mem_drop (i := k + 1) (by rw [hys]; exact List.mem_of_mem_drop (i := j) hx))
    rw [Sh.pr_pd]
    exact ⟨ha, Mh.le_left ha hb h2.2⟩)
  have hdP0 : 0 ≤ d / P := Int.ediv_nonneg h0 (by omega)
  have hdP1 : d / P ≤ 9223372036854775807 := Int.le_trans (Int.ediv_le_self _ h0) (by omega)
  obtain ⟨b31, b32⟩ := b3
  have hvp0 : 0 ≤ d / P % x9 * P := Int.mul_nonneg b31 (by omega)
  clear hI2 hr hc2 hA2 hys hP hx hx9 h
  go_enter Try.func26, Try.ntmps26
  go_wp2
  go_loop [7, 16] (fun p i => ∃ j : Nat, j ≤ r ∧ i = .int .i64 j ∧ ∃ R : Int, Sh.pr (ys.take j) = R ∧ p = .int .i64 R) (fun _ i => r - (intOf i).toNat)
  case atStart => exact ⟨0, Nat.zero_le _, rfl, 1, rfl, rfl⟩
  case round =>
    obtain ⟨j, hj, rfl, R, hR, rfl⟩ := hrel
    by_cases hlt : j < r
    · obtain ⟨ad2, y, rfl, hb2, hy, hc2, hf2⟩ := HI2.out.at_ hlt
      have hm := HYR.out (j + 1)
      rw [Sh.pr_take _ hy, hR] at hm
      obtain ⟨hm1, hm2⟩ := hm
      have HY := Lib.hid hy
      have HRR := Lib.hid hR
      clear hy hR
      go_wp2
      go_round
      case rel => exact ⟨j + 1, by omega, by go_num, _, by rw [Sh.pr_take _ HY.out, HRR.out], rfl⟩
      case measure => simp [intOf]; omega
    · have ht : R = P := by
        rw [← hR, ← HPD.out, List.take_of_length_le (by have := HI2.out.len; omega), Sh.pr_pd, HYS.out]
      subst ht
      have HRR := Lib.hid hR
      clear hR
      go_wp2
      go_quiet (fail)
      go_wp2
      go_ret2
      exact ⟨ret_twoM rfl rfl, _, rfl⟩
set_option maxRecDepth 100000 in
set_option maxHeartbeats 1600000 in
theorem mAt_lst {w : World} {A : Option Addr} {n c : Nat} {xs : List Int} (i : Int) (h : Ints w A n xs) (hif : Fits i) :
    Calls Try.prog 14 #[.slice A n c, .int .i64 i] w fun e w' => MakesL w 3 (Mh.placeOf xs i) e w' := by
  have hn := h.len
  have hle := h.le
  obtain ⟨hi1, hi2⟩ := hif
  have C := mStands (c := c) i h
  by_cases hok : 0 ≤ i ∧ i < Mh.size xs
  · rw [decide_eq_true hok] at C
    obtain ⟨hr, hd⟩ := Mh.size_pos hok.1 hok.2
    have HP := Lib.hid (p := Mh.placeOf xs i = Sh.place xs i) (by rw [Mh.placeOf, if_pos hok])
    obtain ⟨hi0, his⟩ := hok
    have hl4 : xs.length ≤ 4 := by have := (Mh.right_iff.1 hr).1; omega
    have hn4 : n ≤ 4 := by omega
    have HD : Hid (∀ x ∈ xs, 0 ≤ x ∧ x ≤ 32) := Lib.hid fun x hx => Mh.wide hd x hx
    have H1 := Lib.hid hn; clear hn
    have HE := Lib.hid hd; clear hd hr his
    have HC := Lib.hid C; clear C
    obtain ⟨i0, hi, hz0, hz1, hz2⟩ := info_parts Try.infoInt
    rw [HP.out]
    go_enter Try.func14, Try.ntmps14
    go_wp2_with (first | (go_at_call 24; refine (HC.out).mono ?_; rintro e w' ⟨rfl, rfl⟩) | (at_make; refine wpList_make_full _ rfl _ _ _ rfl _ _ i0 (.int .i64 0) 1 Try.underlying24 hi hz0 hz1 .i64 .i64 _ _ n rfl rfl rfl rfl ?c1 ?c2 (Nat.le_refl _) ?_))
    case c1 => rw [hz2]; omega
    case c2 => unfold maxLen; omega
    intro w1 hown hgr
    have hO := own_make (by omega) hown
    have hB : Below w.heap.size w w1 := (Below.refl _ _).grown hgr (Nat.le_refl _) (by simp)
    have hsz := hgr.size
    clear hown hgr
    go_wp2
    go_loopw [1, 6] (fun p a wr => ∃ (m : Nat) (k : Int), k + 1 = m ∧ m ≤ n ∧ a = .int .i64 k ∧ p = .int .i64 (i / Sh.pd (xs.drop m)) ∧ ∃ ys, Own wr w.heap.size 3 w.heap.size n n ys ∧ From m ys (Sh.place xs i) ∧ Below w.heap.size w wr) (fun _ a _ => (intOf a + 1).toNat)
    case atStart =>
      refine ⟨n, _, by omega, by omega, rfl, ?_, _, hO, ⟨?_, ?_⟩, hB⟩
      · rw [List.drop_eq_nil_of_le (by have := H1.out; omega)]; simp [Sh.pd]
      · simp [Sh.place_length, H1.out]
      · intro j hj
        rw [List.getElem?_eq_none (by simp; omega), List.getElem?_eq_none (by rw [Sh.place_length, H1.out]; omega)]
    case round =>
      clear hO hB hsz
      obtain ⟨m, k, hkm, hk2, rfl, rfl, ys, hO, hF, hB⟩ := hrel
      by_cases hk0 : 0 ≤ k
      · obtain ⟨m, rfl⟩ := Int.eq_ofNat_of_zero_le hk0
        rename_i m0
        obtain rfl : m0 = m + 1 := by omega
        have hmn : m < n := by omega
        have h' := h.below hB
        obtain ⟨ad, x, rfl, hb, hx, hc, hf⟩ := h'.at_ hmn
        obtain ⟨hx1, hx2⟩ := HE.out x (List.mem_of_getElem? hx)
        have hc2 : wr.cell? ⟨w.heap.size, m, none⟩ = some (.int .i64 (ys.getD m 0)) := hO.cell (by have := hO.len; simp [List.getElem?_eq_getElem (by omega : m < ys.length)])
        have hfz := hO.frozen m
        have hq := Sh.pd_small HD.out hl4 (m + 1)
        have hd0 : 0 ≤ i / Sh.pd (xs.drop (m + 1)) := Int.ediv_nonneg hi0 hq.1
        have hd1 : i / Sh.pd (xs.drop (m + 1)) ≤ 9223372036854775807 := Int.le_trans (Int.ediv_le_self _ hi0) hi2
        have hm0 : 0 ≤ i / Sh.pd (xs.drop (m + 1)) % x := Int.emod_nonneg _ (by omega)
        have hm1 : i / Sh.pd (xs.drop (m + 1)) % x < x := Int.emod_lt_of_pos _ (by omega)
        have HS := Lib.hid (Sh.left_step (i := i) hx HD.out)
        have hO2 := hO.store m (u := i / Sh.pd (xs.drop (m + 1)) % x) ⟨by omega, by omega⟩
        have hF2 := hF.set_ (Sh.place_at (i := i) hx)
        have hB2 := hB.setCell (p := ⟨w.heap.size, m, none⟩) (Nat.le_refl _) (.int .i64 (i / Sh.pd (xs.drop (m + 1)) % x))
        have hc3 : (wr.setCell ⟨w.heap.size, m, none⟩ (.int .i64 (i / Sh.pd (xs.drop (m + 1)) % x))).cell? (ad.add m) = some (.int .i64 x) := (h.below hB2).get hx
        have HX := Lib.hid hx
        clear hx hkm hk0 hO hF hB h' hq
        go_wp2
        go_roundw
        case rel => exact ⟨m, _, by omega, by omega, rfl, by rw [HS.out], _, hO2, hF2, hB2⟩
        case measure => simp [intOf]
      · obtain rfl : m = 0 := by omega
        obtain rfl : k = -1 := by omega
        have HF := Lib.hid hF; clear hF
        go_wp2
        go_ret
        rw [← HF.out.zero]
        exact MakesL.own hO hB
  · rw [decide_eq_false hok] at C
    have HP := Lib.hid (p := Mh.placeOf xs i = []) (by rw [Mh.placeOf, if_neg hok])
    rw [HP.out]
    have H1 := Lib.hid hn; clear hn
    have HC := Lib.hid C; clear C hok
    go_enter Try.func14, Try.ntmps14
    go_wp2_with (go_at_call 24; refine (HC.out).mono ?_; rintro e w' ⟨rfl, rfl⟩)
    go_ret
    exact MakesL.none_ w _
theorem mAt_any {w : World} {A : Option Addr} {n c : Nat} {xs : List Int} (d : Int) (h : Ints w A n xs) (hd : Fits d) :
    Calls Try.prog 14 #[.slice A n c, .int .i64 d] w fun e w' => Makes w (Mh.placeOf xs d) e w' := (mAt_lst d h hd).mono fun _ _ h => h.makes
set_option maxRecDepth 100000 in
set_option maxHeartbeats 1600000 in
theorem mOf_eq {w : World} {A B : Option Addr} {n c m d : Nat} {xs ys : List Int} (h : Ints w A n xs) (g : Ints w B m ys) :
    Calls Try.prog 13 #[.slice A n c, .slice B m d] w fun e w' => e = .returned (.int .i64 (Mh.index xs ys)) ∧ w = w' := by
  have hn := h.len
  have hm := g.len
  have hle := h.le
  have hme := g.le
  cases hr : Mh.right xs with
  | false =>
    have HX := Lib.hid (Mh.index_right (p := ys) hr)
    have HR := Lib.hid hr; clear hr
    have H1 := Lib.hid hn; clear hn
    have H2 := Lib.hid hm; clear hm
    go_enter Try.func13, Try.ntmps13
    go_wp2_with (go_at_call 18; refine (mRight_eq h).mono ?_; rw [HR.out]; rintro e w' ⟨rfl, rfl⟩)
    go_ret
    exact ⟨ret_int HX.out.symm, rfl⟩
  | true =>
    have H1 := Lib.hid hn; clear hn
    have H2 := Lib.hid hm; clear hm
    by_cases hnm : m = n
    · have HR := Lib.hid hr; clear hr
      subst hnm
      go_enter Try.func13, Try.ntmps13
      go_wp2_with (go_at_call 18; refine (mRight_eq h).mono ?_; rw [HR.out]; rintro e w' ⟨rfl, rfl⟩)
      go_loop [5, 20] (fun p i => ∃ k : Nat, k ≤ m ∧ i = .int .i64 k ∧ ∃ R : Int, Sh.hor (xs.take k) (ys.take k) = R ∧ p = .int .i64 R ∧ Sh.within (xs.take k) (ys.take k) = true) (fun _ i => m - (intOf i).toNat)
      case atStart => exact ⟨0, Nat.zero_le _, rfl, 0, rfl, rfl, rfl⟩
      case round =>
        obtain ⟨k, hk, rfl, R, hRR, rfl, hd⟩ := hrel
        have HD := Lib.hid hd; clear hd
        have HRR := Lib.hid hRR; clear hRR
        by_cases hlt : k < m
        · obtain ⟨ad, x, rfl, hb, hx, hc, hf⟩ := h.at_ hlt
          obtain ⟨bd, y, rfl, hb', hy, hc', hf'⟩ := g.at_ hlt
          have H := Lib.hid hx; clear hx
          have G := Lib.hid hy; clear hy
          by_cases hy0 : 0 ≤ y ∧ y < x
          · obtain ⟨hy1, hy2⟩ := hy0
            have hw := Lib.hid (p := Sh.within (xs.take (k + 1)) (ys.take (k + 1)) = true) (by rw [Sh.within_take H.out G.out, HD.out]; simp [hy1, hy2])
            have hs := Sh.hor_small (Mh.right_sh HR.out) (H1.out.trans H2.out.symm) (k + 1) hw.out
            rw [Sh.hor_take H.out G.out, HRR.out] at hs
            obtain ⟨hs1, hs2⟩ := hs
            have hs' := Sh.hor_small (Mh.right_sh HR.out) (H1.out.trans H2.out.symm) k HD.out
            rw [HRR.out] at hs'
            have hp0 : 0 ≤ R * x := Int.mul_nonneg hs'.1 (by omega)
            have hp1 : R * x ≤ 1048576 := by omega
            clear hs'
            go_wp2
            go_round
            case rel => exact ⟨k + 1, by omega, by go_num, _, by rw [Sh.hor_take H.out G.out, HRR.out], rfl, hw.out⟩
            case measure => simp [intOf]; omega
          · have HX := Lib.hid (Mh.index_out H.out G.out hy0)
            by_cases hy1 : y < 0
            · go_wp2
              go_ret
              exact ⟨ret_int HX.out.symm, rfl⟩
            · have hy2 : x ≤ y := by omega
              go_wp2
              go_ret
              exact ⟨ret_int HX.out.symm, rfl⟩
        · have HX := Lib.hid (show Mh.index xs ys = R by
            have ht : xs.take k = xs := List.take_of_length_le (by have := H1.out; omega)
            have ht' : ys.take k = ys := List.take_of_length_le (by have := H2.out; omega)
            have hd := HD.out
            have h9 := HRR.out
            rw [ht, ht'] at hd h9
            rw [Mh.index_of HR.out (H2.out.trans H1.out.symm) hd, h9])
          go_wp2
          go_ret
          exact ⟨ret_int HX.out.symm, rfl⟩
    · have HX := Lib.hid (Mh.index_len (s := xs) (p := ys) (by have := H1.out; have := H2.out; omega))
      have hb : ((m : Int) != (n : Int)) = true := by simp; omega
      have HR := Lib.hid hr; clear hr
      go_enter Try.func13, Try.ntmps13
      go_wp2_with (go_at_call 18; refine (mRight_eq h).mono ?_; rw [HR.out]; rintro e w' ⟨rfl, rfl⟩)
      go_ret
      exact ⟨ret_int HX.out.symm, rfl⟩
theorem mOf_any {w : World} {A B : Option Addr} {n c m d : Nat} {xs ys : List Int} (h : Ints w A n xs) (g : Ints w B m ys) :
    Calls Try.prog 13 #[.slice A n c, .slice B m d] w fun e w' => e = .returned (.int .i64 (Mh.index xs ys)) ∧ Below w.heap.size w w' :=
  (mOf_eq h g).mono fun _ _ h => ⟨h.1, h.2 ▸ Below.refl _ _⟩
set_option maxRecDepth 100000 in
set_option maxHeartbeats 1600000 in
theorem mGroup_lst {w : World} {A : Option Addr} {n c : Nat} {xs : List Int} (d a : Int) (h : Ints w A n xs) (hac : n ≤ c) :
    Calls Try.prog 15 #[.slice A n c, .int .i64 d, .int .i64 a] w fun e w' => MakesL w 3 (Mh.group xs d a) e w' := by
  have hle := h.le
  have C1 := mStands (c := c) d h
  have C2 := mGoes (c := c) a h

  by_cases h0 : 0 ≤ d ∧ d < Mh.size xs
  · rw [decide_eq_true h0] at C1
    by_cases h1 : 0 ≤ a ∧ a < xs.length
    · rw [decide_eq_true h1] at C2
      obtain ⟨k, rfl⟩ := Int.eq_ofNat_of_zero_le h1.1
      have hkn : k < n := by have := h1.2; have := h.len; omega
      obtain ⟨ad, x, rfl, hb, hx, hc, hf⟩ := h.at_ hkn
      obtain ⟨⟨x1, x8⟩, ⟨p1, p8⟩, _, f0, f7⟩ := Mh.line_bd h0.1 h0.2 hx
      obtain ⟨q, rfl⟩ := Int.eq_ofNat_of_zero_le (show 0 ≤ x by omega)
      have hG := Mh.group_of h0.1 h0.2 hx
      have C3 := mLine (c := c) h hac hx h0.1 h0.2 rfl
      obtain ⟨P, hP⟩ : ∃ P, Sh.pd (xs.drop (k + 1)) = P := ⟨_, rfl⟩
      rw [hP] at C3 p1 p8 f0 f7 hG
      obtain ⟨Fi, hFi⟩ : ∃ F, d - d / P % q * P = F := ⟨_, rfl⟩
      rw [hFi] at C3 f0 f7 hG
      obtain ⟨Gr, hGr⟩ : ∃ F, Mh.group xs d k = F := ⟨_, rfl⟩
      rw [hGr] at hG ⊢
      have HG := Lib.hid hG
      have HI := Lib.hid h
      have HC1 := Lib.hid C1
      have HC2 := Lib.hid C2
      have HC3 := Lib.hid C3
      clear C1 C2 C3 h0 h1 h hx hG hGr hP hFi
      have HKC := Lib.hid hc
      go_enter Try.func15, Try.ntmps15
      obtain ⟨i0, hi, hz0, hz1, hz2⟩ := info_parts Try.infoInt
      go_wp2_with (first | (go_at_call 24; refine HC1.out.mono ?_; rintro e w' ⟨rfl, rfl⟩) | (go_at_call 25; refine HC2.out.mono ?_; rintro e w' ⟨rfl, rfl⟩) | (go_at_call 26; refine HC3.out.mono ?_; rintro e w' ⟨rfl, q9, rfl⟩) | (at_make; refine wpList_make_full _ rfl _ _ _ rfl _ _ i0 (.int .i64 0) 1 Try.underlying24 hi hz0 hz1 .i64 .i64 _ _ q rfl rfl rfl rfl ?c1 ?c2 (Nat.le_refl _) ?_))
      case c1 => rw [hz2]; omega
      case c2 => unfold maxLen; omega
      intro w1 hown hgr
      have hO := own_make (by omega) hown
      have hB : Below w.heap.size w w1 := (below_drewN (Below.refl _ _) q9).grown hgr (by simp) (by simp)
      have hsz := hgr.size
      clear hown hgr
      go_wp2
      go_loopw [35] (fun i wr => ∃ j : Nat, j ≤ q ∧ i = .int .i64 j ∧ ∃ ys, Own wr w.heap.size 3 w.heap.size q q ys ∧ Upto j ys Gr ∧ Below w.heap.size w wr) (fun i _ => q - (intOf i).toNat)
      case atStart => exact ⟨0, Nat.zero_le _, rfl, _, hO, Upto.start (by rw [HG.out.1]; simp), hB⟩
      case round =>
        clear hO hB hsz
        obtain ⟨j, hj, rfl, ys, hO, hU, hB⟩ := hrel
        by_cases hlt : j < q
        · have hc2 : wr.cell? ⟨w.heap.size, j, none⟩ = some (.int .i64 (ys.getD j 0)) := hO.cell (by have := hO.len; simp [List.getElem?_eq_getElem (by omega : j < ys.length)])
          have hfz := hO.frozen j
          have hjp := Int.mul_le_mul (show (j : Int) ≤ 8 by omega) p8 (by omega) (by omega)
          have hjp0 : 0 ≤ (j : Int) * P := Int.mul_nonneg (by omega) (by omega)
          have hO2 := Lib.hid (hO.store j (u := Fi + j * P) ⟨by omega, by omega⟩)
          have hU2 := Lib.hid (hU.set_ (HG.out.2 j hlt))
          have hB2 := Lib.hid (hB.setCell (p := ⟨w.heap.size, j, none⟩) (Nat.le_refl _) (.int .i64 (Fi + j * P)))
          clear hO hU hB
          go_wp2
          go_roundw
          case rel => exact ⟨j + 1, by omega, by go_num, _, hO2.out, hU2.out, hB2.out⟩
          case measure => simp [intOf]; omega
        · have HF := Lib.hid (hU.all (by rw [HG.out.1]; omega))
          go_wp2
          go_ret
          rw [← HF.out]
          exact MakesL.own hO hB
    · rw [decide_eq_false h1] at C2
      have HG := Lib.hid (Mh.group_not (s := xs) (i := d) (k := a) (by omega))
      rw [HG.out]
      have HC1 := Lib.hid C1
      have HC2 := Lib.hid C2
      clear C1 C2 h0 h1 h
      go_enter Try.func15, Try.ntmps15
      go_wp2_with (first | (go_at_call 24; refine HC1.out.mono ?_; rintro e w' ⟨rfl, rfl⟩) | (go_at_call 25; refine HC2.out.mono ?_; rintro e w' ⟨rfl, rfl⟩))
      go_ret
      exact MakesL.none_ w _
  · rw [decide_eq_false h0] at C1
    have HG := Lib.hid (Mh.group_not (s := xs) (i := d) (k := a) (by omega))
    rw [HG.out]
    have HC1 := Lib.hid C1
    have HC2 := Lib.hid C2
    clear C1 C2 h0 h
    go_enter Try.func15, Try.ntmps15
    go_wp2_with (first | (go_at_call 24; refine HC1.out.mono ?_; rintro e w' ⟨rfl, rfl⟩) | (go_at_call 25; refine HC2.out.mono ?_; rintro e w' ⟨rfl, rfl⟩))
    go_ret
    exact MakesL.none_ w _

theorem mGroup_any {w : World} {A : Option Addr} {n c : Nat} {xs : List Int} (d a : Int) (h : Ints w A n xs) (_hd : Fits d) (_ha : Fits a) (hac : n ≤ c := by omega) :
    Calls Try.prog 15 #[.slice A n c, .int .i64 d, .int .i64 a] w fun e w' => Makes w (Mh.group xs d a) e w' := (mGroup_lst d a h hac).mono fun _ _ h => h.makes
set_option maxRecDepth 100000 in
set_option maxHeartbeats 1600000 in
theorem mStep_drew {w : World} {A : Option Addr} {n c : Nat} {xs : List Int} (d a b : Int) (h : Ints w A n xs) (hfb : Fits b) (hac : n ≤ c) :
    Calls Try.prog 16 #[.slice A n c, .int .i64 d, .int .i64 a, .int .i64 b] w fun e w' => e = .returned (.int .i64 (Mh.step xs d a b)) ∧ ∃ q, w' = w.drewN q := by
  have hle := h.le
  obtain ⟨hfb1, hfb2⟩ := hfb
  have C1 := mStands (c := c) d h
  have C2 := mGoes (c := c) a h

  by_cases h0 : 0 ≤ d ∧ d < Mh.size xs
  · rw [decide_eq_true h0] at C1
    by_cases h1 : 0 ≤ a ∧ a < xs.length
    · rw [decide_eq_true h1] at C2
      obtain ⟨k, rfl⟩ := Int.eq_ofNat_of_zero_le h1.1
      have hkn : k < n := by have := h1.2; have := h.len; omega
      obtain ⟨ad, x, rfl, hb, hx, hc, hf⟩ := h.at_ hkn
      obtain ⟨⟨x1, x8⟩, ⟨p1, p8⟩, ⟨v0, vx⟩, f0, f7⟩ := Mh.line_bd h0.1 h0.2 hx
      obtain ⟨q, rfl⟩ := Int.eq_ofNat_of_zero_le (show 0 ≤ x by omega)
      have hS := Mh.step_of (b := b) h0.1 h0.2 hx
      have C3 := mLine (c := c) h hac hx h0.1 h0.2 rfl
      have hsz := (Mh.size_bd xs).2
      obtain ⟨P, hP⟩ : ∃ P, Sh.pd (xs.drop (k + 1)) = P := ⟨_, rfl⟩
      rw [hP] at C3 p1 p8 v0 vx f0 f7 hS
      obtain ⟨V, hV⟩ : ∃ V, d / P % q = V := ⟨_, rfl⟩
      rw [hV] at C3 v0 vx f0 f7 hS
      obtain ⟨Fi, hFi⟩ : ∃ F, d - V * P = F := ⟨_, rfl⟩
      rw [hFi] at C3 f0 f7 hS
      have e1 : (d - Fi) / P = V := by rw [show d - Fi = V * P by omega]; exact Int.mul_ediv_cancel _ (by omega)
      have e0 : 0 ≤ d - Fi := by have h9 := Int.mul_nonneg v0 (show 0 ≤ P by omega); omega
      have e9 : d - Fi ≤ 8 := by omega
      obtain ⟨t1, t2, t3⟩ := Mh.turn_two (x := V) (b := b) (n := q) v0 (by omega)
      obtain ⟨t4, t5⟩ := Mh.turn_bd (x := V) (b := b) (n := q) (by omega)
      obtain ⟨Tn, hTn⟩ : ∃ F, Mh.turn V b q = F := ⟨_, rfl⟩
      rw [hTn] at t1 t4 t5 hS
      have u1 := Int.mul_le_mul (show Tn ≤ 8 by omega) p8 (by omega) (by omega)
      have u0 : 0 ≤ Tn * P := Int.mul_nonneg t4 (by omega)
      have HS := Lib.hid hS
      have HI := Lib.hid h
      have HC1 := Lib.hid C1
      have HC2 := Lib.hid C2
      have HC3 := Lib.hid C3
      have T1 := Lib.hid t1
      have E1 := Lib.hid e1
      obtain ⟨Rm, hRm⟩ : ∃ F, b.tmod q = F := ⟨_, rfl⟩
      rw [hRm] at t2 t3 t1
      have w1e : IntKind.i64.wrap ((d - Fi) / P) = V := by rw [e1]; exact IntWalk.i64_in _ ⟨by omega, by omega⟩
      have w2e : IntKind.i64.wrap (b.tmod q) = Rm := by rw [hRm]; exact IntWalk.i64_in _ ⟨by omega, by omega⟩
      have w3e : (V + Rm + q).tmod q = Tn := t1
      have HRM := Lib.hid hRm
      clear C1 C2 C3 h0 h1 h hx hS hP hFi hV hTn e1 t1 hRm w1e w2e
      go_enter Try.func16, Try.ntmps16
      go_wp2_with (first | (go_at_call 24; refine HC1.out.mono ?_; rintro e w' ⟨rfl, rfl⟩) | (go_at_call 25; refine HC2.out.mono ?_; rintro e w' ⟨rfl, rfl⟩) | (go_at_call 26; refine HC3.out.mono ?_; rintro e w' ⟨rfl, q9, rfl⟩))
      go_quiet (fail)
      go_wp2
      go_ret
      have W : ∀ v : Int, -9223372036854775808 ≤ v ∧ v ≤ 9223372036854775807 → wrap64 v = v := fun v h => by unfold wrap64; omega
      refine ⟨ret_int ?_, _, rfl⟩
      rw [E1.out, HRM.out, W (V + Rm) ⟨by omega, by omega⟩, W (V + Rm + q) ⟨by omega, by omega⟩, w3e, W (Tn * P) ⟨by omega, by omega⟩, W (Fi + Tn * P) ⟨by omega, by omega⟩]
      exact HS.out.symm
    · rw [decide_eq_false h1] at C2
      have HG := Lib.hid (Mh.step_not (s := xs) (i := d) (k := a) (b := b) (by omega))
      rw [HG.out]
      have HC1 := Lib.hid C1
      have HC2 := Lib.hid C2
      clear C1 C2 h0 h1 h
      go_enter Try.func16, Try.ntmps16
      go_wp2_with (first | (go_at_call 24; refine HC1.out.mono ?_; rintro e w' ⟨rfl, rfl⟩) | (go_at_call 25; refine HC2.out.mono ?_; rintro e w' ⟨rfl, rfl⟩))
      go_ret
      exact ⟨rfl, 0, rfl⟩
  · rw [decide_eq_false h0] at C1
    have HG := Lib.hid (Mh.step_not (s := xs) (i := d) (k := a) (b := b) (by omega))
    rw [HG.out]
    have HC1 := Lib.hid C1
    have HC2 := Lib.hid C2
    clear C1 C2 h0 h
    go_enter Try.func16, Try.ntmps16
    go_wp2_with (first | (go_at_call 24; refine HC1.out.mono ?_; rintro e w' ⟨rfl, rfl⟩) | (go_at_call 25; refine HC2.out.mono ?_; rintro e w' ⟨rfl, rfl⟩))
    go_ret
    exact ⟨rfl, 0, rfl⟩

theorem mStep_any {w : World} {A : Option Addr} {n c : Nat} {xs : List Int} (d a b : Int) (h : Ints w A n xs) (_hd : Fits d) (_ha : Fits a) (hb : Fits b) (hac : n ≤ c := by omega) :
    Calls Try.prog 16 #[.slice A n c, .int .i64 d, .int .i64 a, .int .i64 b] w fun e w' => e = .returned (.int .i64 (Mh.step xs d a b)) ∧ Below w.heap.size w w' :=
  (mStep_drew d a b h hb hac).mono fun _ _ h => ⟨h.1, by obtain ⟨_, q, rfl⟩ := h; exact below_drewN (Below.refl _ _) q⟩
end Go.Proofs.Ythhfjbhopenchaa
