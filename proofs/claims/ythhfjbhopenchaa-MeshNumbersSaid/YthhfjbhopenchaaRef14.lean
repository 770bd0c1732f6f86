/- Contracts of parquetryref14: Right, Devices, Of, At. -/
import Derived.Test.YthhfjbhopenchaaMh
import Derived.Test.YthhfjbhopenchaaRef
import Derived.Test.YthhfjbhopenchaaSepL
import Derived.Test.YthhfjbhopenchaaKitReg
namespace Go.Proofs.Ythhfjbhopenchaa
open Go.RowKit

set_option maxRecDepth 100000 in
set_option maxHeartbeats 400000 in
theorem ref14Right_any {w : World} {A : Option Addr} {n c : Nat} {xs : List Int} (h : Ints w A n xs) :
    Calls Try.prog 19 #[.slice A n c] w fun e w' => e = .returned (.bool (Mh.right xs)) ∧ w = w' := by
  have hn := h.len
  have hle := h.le
  go_enter Try.func19, Try.ntmps19
  go_wp2
  go_loop [3, 7] (fun p i => ∃ k : Nat, k ≤ n ∧ k ≤ 3 ∧ i = .int .i64 k ∧ p = .int .i64 (Sh.pr (xs.take k)) ∧ ∀ x ∈ xs.take k, 1 ≤ x ∧ x ≤ 8) (fun _ i => n - (intOf i).toNat)
  case atStart => exact ⟨0, Nat.zero_le _, Nat.zero_le _, rfl, rfl, by simp⟩
  case round =>
    obtain ⟨k, hk, hk4, rfl, rfl, hd⟩ := hrel
    have H2 := Lib.hid hn; clear hn
    by_cases hlt : k < n
    · obtain ⟨ad, x, rfl, hb, hx, hc, hf⟩ := h.at_ hlt
      have H := Lib.hid hx; clear hx
      have HD := Lib.hid hd; clear hd
      by_cases hx0 : 1 ≤ x ∧ x ≤ 8
      · obtain ⟨hx1, hx2⟩ := hx0
        by_cases hk3 : k < 3
        · have hall : ∀ y ∈ xs.take (k + 1), 1 ≤ y ∧ y ≤ 8 := by
            intro y hy
            rw [List.take_add_one, H.out] at hy
            simp at hy
            rcases hy with hy | rfl
            · exact HD.out y hy
            · exact ⟨hx1, hx2⟩
          have hm := Sh.pr_small (xs.take (k + 1)) (Mh.wide hall) (by have := H2.out; simp; omega)
          rw [Sh.pr_take _ H.out] at hm
          obtain ⟨hm1, hm2⟩ := hm
          have HA := Lib.hid hall; clear hall
          go_wp2
          go_round
          case rel => exact ⟨k + 1, by omega, by omega, by go_num, by rw [Sh.pr_take _ H.out], HA.out⟩
          case measure => simp [intOf]; omega
        · have HR := Lib.hid (Mh.not_right_long (s := xs) (by have := H2.out; omega))
          go_wp2
          go_ret
          exact ⟨ret_bool HR.out.symm, rfl⟩
      · have HR := Lib.hid (Mh.not_right_dim H.out hx0)
        by_cases hk3 : k < 3
        · by_cases hx1 : x < 1
          · go_wp2
            go_ret
            exact ⟨ret_bool HR.out.symm, rfl⟩
          · have hx2 : 8 < x := by omega
            go_wp2
            go_ret
            exact ⟨ret_bool HR.out.symm, rfl⟩
        · go_wp2
          go_ret
          exact ⟨ret_bool HR.out.symm, rfl⟩
    · have hkn : k = n := by omega
      have ht : xs.take k = xs := List.take_of_length_le (by have := H2.out; omega)
      rw [ht] at hd ⊢
      have hb := Sh.pr_small xs (Mh.wide hd) (by have := H2.out; omega)
      have HR := Lib.hid (Mh.right_small (by have := H2.out; omega) hd)
      have HD := Lib.hid hd; clear hd
      have HT := Lib.hid ht; clear ht
      have HK := Lib.hid hkn; clear hkn
      go_wp2
      go_ret
      exact ⟨ret_bool HR.out.symm, rfl⟩
set_option maxRecDepth 100000 in
set_option maxHeartbeats 400000 in
theorem ref14Devices_any {w : World} {A : Option Addr} {n c : Nat} {xs : List Int} (h : Ints w A n xs) :
    Calls Try.prog 20 #[.slice A n c] w fun e w' => e = .returned (.int .i64 (Mh.size xs)) ∧ w = w' := by
  have hn := h.len
  have hle := h.le
  cases hr : Mh.right xs with
  | false =>
    have H2 := Lib.hid hn; clear hn
    have HR := Lib.hid hr; clear hr
    go_enter Try.func20, Try.ntmps20
    go_wp2_with (go_at_call 19; refine (ref14Right_any h).mono ?_; rw [HR.out]; rintro e w' ⟨rfl, rfl⟩)
    go_ret
    exact ⟨ret_int (Mh.size_not HR.out).symm, rfl⟩
  | true =>
    obtain ⟨hl4, hd, hbig⟩ := Mh.right_iff.1 hr
    have H2 := Lib.hid hn; clear hn
    have HR := Lib.hid hr; clear hr
    have HD := Lib.hid hd; clear hd
    go_enter Try.func20, Try.ntmps20
    go_wp2_with (go_at_call 19; refine (ref14Right_any h).mono ?_; rw [HR.out]; rintro e w' ⟨rfl, rfl⟩)
    go_loop [3, 10] (fun p i => ∃ k : Nat, k ≤ n ∧ i = .int .i64 k ∧ p = .int .i64 (Sh.pr (xs.take k))) (fun _ i => n - (intOf i).toNat)
    case atStart => exact ⟨0, Nat.zero_le _, rfl, rfl⟩
    case round =>
      obtain ⟨k, hk, rfl, rfl⟩ := hrel
      by_cases hlt : k < n
      · obtain ⟨ad, x, rfl, hb, hx, hc, hf⟩ := h.at_ hlt
        have hm := Sh.pr_small (xs.take (k + 1)) (Mh.wide fun y hy => HD.out y (List.mem_of_mem_take hy)) (by have := H2.out; simp; omega)
        rw [Sh.pr_take _ hx] at hm
        obtain ⟨hm1, hm2⟩ := hm
        have H := Lib.hid hx; clear hx
        go_wp2
        go_round
        case rel => exact ⟨k + 1, by omega, by go_num, by rw [Sh.pr_take _ H.out]⟩
        case measure => simp [intOf]; omega
      · have ht : xs.take k = xs := List.take_of_length_le (by have := H2.out; omega)
        rw [ht]
        have HT := Lib.hid ht; clear ht
        go_wp2
        go_ret
        exact ⟨ret_int (Mh.size_of HR.out).symm, rfl⟩
set_option maxRecDepth 100000 in
set_option maxHeartbeats 400000 in
theorem ref14Of_any {w : World} {A B : Option Addr} {n c m d : Nat} {xs ys : List Int} (h : Ints w A n xs) (g : Ints w B m ys) :
    Calls Try.prog 21 #[.slice A n c, .slice B m d] w fun e w' => e = .returned (.int .i64 (Mh.index xs ys)) ∧ ∃ k, w' = w.drewN k := by
  have hn := h.len
  have hm := g.len
  have hle := h.le
  have hme := g.le
  cases hr : Mh.right xs with
  | false =>
    have HX := Lib.hid (Mh.index_right (p := ys) hr)
    have HR := Lib.hid hr; clear hr
    have H1 := Lib.hid hn; clear hn
    have H2 := Lib.hid hm; clear hm
    go_enter Try.func21, Try.ntmps21
    go_wp2_with (go_at_call 19; refine (ref14Right_any h).mono ?_; rw [HR.out]; rintro e w' ⟨rfl, rfl⟩)
    go_ret
    exact ⟨ret_int HX.out.symm, 0, rfl⟩
  | true =>
    have H1 := Lib.hid hn; clear hn
    have H2 := Lib.hid hm; clear hm
    by_cases hnm : m = n
    · have HR := Lib.hid hr; clear hr
      subst hnm
      go_enter Try.func21, Try.ntmps21
      go_wp2_with (go_at_call 19; refine (ref14Right_any h).mono ?_; rw [HR.out]; rintro e w' ⟨rfl, rfl⟩)
      go_loopw [5, 19] (fun p i wr => ∃ k : Nat, k ≤ m ∧ i = .int .i64 k ∧ p = .int .i64 (Sh.hor (xs.take k) (ys.take k)) ∧ Sh.within (xs.take k) (ys.take k) = true ∧ ∃ q, wr = w.drewN q) (fun _ i _ => m - (intOf i).toNat)
      case atStart => exact ⟨0, Nat.zero_le _, rfl, rfl, rfl, 0, rfl⟩
      case round =>
        obtain ⟨k, hk, rfl, rfl, hd, q, rfl⟩ := hrel
        have HD := Lib.hid hd; clear hd
        by_cases hlt : k < m
        · obtain ⟨ad, x, rfl, hb, hx, hc, hf⟩ := h.at_ hlt
          obtain ⟨bd, y, rfl, hb', hy, hc', hf'⟩ := g.at_ hlt
          have H := Lib.hid hx; clear hx
          have G := Lib.hid hy; clear hy
          by_cases hy0 : 0 ≤ y ∧ y < x
          · obtain ⟨hy1, hy2⟩ := hy0
            have hw := Lib.hid (p := Sh.within (xs.take (k + 1)) (ys.take (k + 1)) = true) (by rw [Sh.within_take H.out G.out, HD.out]; simp [hy1, hy2])
            have hs := Sh.hor_small (Mh.right_sh HR.out) (H1.out.trans H2.out.symm) (k + 1) hw.out
            rw [Sh.hor_take H.out G.out] at hs
            obtain ⟨hs1, hs2⟩ := hs
            have hs' := Sh.hor_small (Mh.right_sh HR.out) (H1.out.trans H2.out.symm) k HD.out
            have hp0 : 0 ≤ Sh.hor (xs.take k) (ys.take k) * x := Int.mul_nonneg hs'.1 (by omega)
            have hp1 : Sh.hor (xs.take k) (ys.take k) * x ≤ 1048576 := by omega
            clear hs'
            have hd1 : decide (y < 0) = false := by simp; omega
            have hd2 : decide (x ≤ y) = false := by simp; omega
            go_wp2
            go_quiet (fail)
            go_wp2
            go_quiet (fail)
            go_wp2
            go_roundw
            case rel => exact ⟨k + 1, by omega, by go_num, by rw [Sh.hor_take H.out G.out], hw.out, _, rfl⟩
            case measure => simp [intOf]; omega
          · have HX := Lib.hid (Mh.index_out H.out G.out hy0)
            by_cases hy1 : y < 0
            · have hd1 : decide (y < 0) = true := by simpa using hy1
              go_wp2
              go_quiet (fail)
              go_wp2
              go_ret
              exact ⟨ret_int HX.out.symm, _, World.drewN_drewN _ _ _⟩
            · have hy2 : x ≤ y := by omega
              have hd1 : decide (y < 0) = false := by simpa using hy1
              have hd2 : decide (x ≤ y) = true := by simpa using hy2
              go_wp2
              go_quiet (fail)
              go_wp2
              go_ret
              exact ⟨ret_int HX.out.symm, _, World.drewN_drewN _ _ _⟩
        · have ht : xs.take k = xs := List.take_of_length_le (by have := H1.out; omega)
          have ht' : ys.take k = ys := List.take_of_length_le (by have := H2.out; omega)
          have hd := HD.out
          rw [ht, ht'] at hd ⊢
          have HX := Lib.hid (Mh.index_of HR.out (H2.out.trans H1.out.symm) hd)
          clear ht ht' hd
          go_wp2
          go_ret
          exact ⟨ret_int HX.out.symm, _, rfl⟩
    · have HX := Lib.hid (Mh.index_len (s := xs) (p := ys) (by have := H1.out; have := H2.out; omega))
      have hb : ((m : Int) != (n : Int)) = true := by simp; omega
      have HR := Lib.hid hr; clear hr
      go_enter Try.func21, Try.ntmps21
      go_wp2_with (go_at_call 19; refine (ref14Right_any h).mono ?_; rw [HR.out]; rintro e w' ⟨rfl, rfl⟩)
      go_ret
      exact ⟨ret_int HX.out.symm, 0, rfl⟩
set_option maxRecDepth 100000 in
set_option maxHeartbeats 800000 in
theorem ref14At_any {w : World} {A : Option Addr} {n c : Nat} {xs : List Int} (i : Int) (h : Ints w A n xs) (hif : Fits i) :
    Calls Try.prog 9 #[.slice A n c, .int .i64 i] w fun e w' => MakesL w 3 (Mh.placeOf xs i) e w' := by
  have hn := h.len
  have hle := h.le
  have hsb := Mh.size_bd xs
  obtain ⟨hsb1, hsb2⟩ := hsb
  obtain ⟨hi1, hi2⟩ := hif
  by_cases hok : 0 ≤ i ∧ i < Mh.size xs
  · obtain ⟨hr, hd⟩ := Mh.size_pos hok.1 hok.2
    have HP := Lib.hid (p := Mh.placeOf xs i = Sh.place xs i) (by rw [Mh.placeOf, if_pos hok])
    obtain ⟨hi0, his⟩ := hok
    have hl4 : xs.length ≤ 4 := by have := (Mh.right_iff.1 hr).1; omega
    have hn4 : n ≤ 4 := by omega
    have HD : Hid (∀ x ∈ xs, 0 ≤ x ∧ x ≤ 32) := Lib.hid fun x hx => Mh.wide hd x hx
    have H1 := Lib.hid hn; clear hn
    have HR := Lib.hid hr; clear hr
    have HE := Lib.hid hd; clear hd
    obtain ⟨i0, hi, hz0, hz1, hz2⟩ := info_parts Try.infoInt
    rw [HP.out]
    go_enter Try.func9, Try.ntmps9
    go_wp2_with (first | (go_at_call 20; refine (ref14Devices_any h).mono ?_; rintro e w' ⟨rfl, rfl⟩) | (at_make; refine wpList_make_full _ rfl _ _ _ rfl _ _ i0 (.int .i64 0) 1 Try.underlying24 hi hz0 hz1 .i64 .i64 _ _ n rfl rfl rfl rfl ?c1 ?c2 (Nat.le_refl _) ?_))
    case c1 => rw [hz2]; omega
    case c2 => unfold maxLen; omega
    intro w1 hown hgr
    have hO := own_make (by omega) hown
    have hB : Below w.heap.size w w1 := (Below.refl _ _).grown hgr (Nat.le_refl _) (by simp)
    have hsz := hgr.size
    clear hown hgr
    go_wp2
    go_loopw [1, 6] (fun p a wr => ∃ (m : Nat) (k : Int), k + 1 = m ∧ m ≤ n ∧ a = .int .i64 k ∧ p = .int .i64 (i / Sh.pd (xs.drop m)) ∧ ∃ ys, Own wr w.heap.size 3 w.heap.size n n ys ∧ From m ys (Sh.place xs i) ∧ Below w.heap.size w wr) (fun _ a _ => (intOf a + 1).toNat)
    case atStart =>
      refine ⟨n, _, by omega, by omega, rfl, ?_, _, hO, ⟨?_, ?_⟩, hB⟩
      · rw [List.drop_eq_nil_of_le (by have := H1.out; omega)]; simp [Sh.pd]
      · simp [Sh.place_length, H1.out]
      · intro j hj
        rw [List.getElem?_eq_none (by simp; omega), List.getElem?_eq_none (by rw [Sh.place_length, H1.out]; omega)]
    case round =>
      clear hO hB hsz
      obtain ⟨m, k, hkm, hk2, rfl, rfl, ys, hO, hF, hB⟩ := hrel
      by_cases hk0 : 0 ≤ k
      · obtain ⟨m, rfl⟩ := Int.eq_ofNat_of_zero_le hk0
        rename_i m0
        obtain rfl : m0 = m + 1 := by omega
        have hmn : m < n := by omega
        have h' := h.below hB
        obtain ⟨ad, x, rfl, hb, hx, hc, hf⟩ := h'.at_ hmn
        obtain ⟨hx1, hx2⟩ := HE.out x (List.mem_of_getElem? hx)
        have hc2 : wr.cell? ⟨w.heap.size, m, none⟩ = some (.int .i64 (ys.getD m 0)) := hO.cell (by have := hO.len; simp [List.getElem?_eq_getElem (by omega : m < ys.length)])
        have hfz := hO.frozen m
        have hq := Sh.pd_small HD.out hl4 (m + 1)
        have hd0 : 0 ≤ i / Sh.pd (xs.drop (m + 1)) := Int.ediv_nonneg hi0 hq.1
        have hd1 : i / Sh.pd (xs.drop (m + 1)) ≤ 9223372036854775807 := Int.le_trans (Int.ediv_le_self _ hi0) hi2
        have hm0 : 0 ≤ i / Sh.pd (xs.drop (m + 1)) % x := Int.emod_nonneg _ (by omega)
        have hm1 : i / Sh.pd (xs.drop (m + 1)) % x < x := Int.emod_lt_of_pos _ (by omega)
        have HS := Lib.hid (Sh.left_step (i := i) hx HD.out)
        have hO2 := hO.store m (u := i / Sh.pd (xs.drop (m + 1)) % x) ⟨by omega, by omega⟩
        have hF2 := hF.set_ (Sh.place_at (i := i) hx)
        have hB2 := hB.setCell (p := ⟨w.heap.size, m, none⟩) (Nat.le_refl _) (.int .i64 (i / Sh.pd (xs.drop (m + 1)) % x))
        have hc3 : (wr.setCell ⟨w.heap.size, m, none⟩ (.int .i64 (i / Sh.pd (xs.drop (m + 1)) % x))).cell? (ad.add m) = some (.int .i64 x) := (h.below hB2).get hx
        have HX := Lib.hid hx
        clear hx hkm hk0 hO hF hB h' hq
        go_wp2
        go_roundw
        case rel => exact ⟨m, _, by omega, by omega, rfl, by rw [HS.out], _, hO2, hF2, hB2⟩
        case measure => simp [intOf]
      · obtain rfl : m = 0 := by omega
        obtain rfl : k = -1 := by omega
        have HF := Lib.hid hF; clear hF
        go_wp2
        go_ret
        rw [← HF.out.zero]
        exact MakesL.own hO hB
  · have HP := Lib.hid (p := Mh.placeOf xs i = []) (by rw [Mh.placeOf, if_neg hok])
    rw [HP.out]
    have H1 := Lib.hid hn; clear hn
    by_cases hi0 : i < 0
    · go_enter Try.func9, Try.ntmps9
      go_wp2_with (go_at_call 20; refine (ref14Devices_any h).mono ?_; rintro e w' ⟨rfl, rfl⟩)
      go_ret
      exact MakesL.none_ w _
    · have hi3 : Mh.size xs ≤ i := by omega
      clear hok
      go_enter Try.func9, Try.ntmps9
      go_wp2_with (go_at_call 20; refine (ref14Devices_any h).mono ?_; rintro e w' ⟨rfl, rfl⟩)
      go_ret
      exact MakesL.none_ w _
theorem form14 {w : World} {base n : Nat} {v : Value} {e : TypeId} {xs : List Int} (h : OwnS w base e v n xs) (hn : 0 < n) : ∃ g c, v = .slice (some ⟨g, 0, none⟩) n c := by
  have hl := h.len
  rcases h.1.2 with ⟨rfl, hx⟩ | ⟨g, c, cur, rfl, _⟩
  · exfalso
    omega
  · exact ⟨g, c, rfl⟩
theorem mh_index_fits {s p : List Int} : Fits (Mh.index s p) := by
  by_cases h : Mh.right s = true ∧ p.length = s.length ∧ Sh.within s p = true
  · obtain ⟨h1, h2, h3⟩ := h
    have h4 := Sh.hor_bd h3 h2.symm
    have h5 := (Mh.right_iff.1 h1).2.2
    rw [Mh.index_of h1 h2 h3]
    exact ⟨by omega, by omega⟩
  · have : Mh.index s p = -1 := by
      unfold Mh.index
      rw [if_neg (by simp; intro a b; cases hw : Sh.within s p with | false => rfl | true => exact absurd ⟨a, b, hw⟩ h)]
    rw [this]; exact ⟨by omega, by omega⟩
set_option maxRecDepth 100000 in
set_option maxHeartbeats 1600000 in
theorem ref14Group_any {w : World} {A : Option Addr} {n c : Nat} {xs : List Int} (d a : Int) (h : Ints w A n xs) (hd : Fits d) (ha : Fits a) :
    Calls Try.prog 22 #[.slice A n c, .int .i64 d, .int .i64 a] w fun e w' => MakesL w 3 (Mh.group xs d a) e w' := by
  have hsb := Mh.size_bd xs
  obtain ⟨hsb1, hsb2⟩ := hsb
  obtain ⟨hd1, hd2⟩ := hd
  obtain ⟨ha1, ha2⟩ := ha
  have HI := Lib.hid h
  have HLN := Lib.hid h.len
  have hle := h.le
  have CD := ref14Devices_any (c := c) h
  obtain ⟨S, hS⟩ : ∃ S, Mh.size xs = S := ⟨_, rfl⟩
  rw [hS] at CD hsb1 hsb2
  have HS := Lib.hid hS
  have HC := Lib.hid CD
  clear CD hS h
  by_cases h0 : 0 ≤ d
  · by_cases h1 : d < S
    · by_cases h2 : 0 ≤ a
      · obtain ⟨k, rfl⟩ := Int.eq_ofNat_of_zero_le h2
        by_cases h3 : k < n
        · have CA := ref14At_any (c := c) d HI.out ⟨hd1, hd2⟩
          rw [Mh.placeOf, if_pos ⟨h0, by rw [HS.out]; exact h1⟩] at CA
          have HA := Lib.hid CA
          clear CA
          obtain ⟨x, hx⟩ : ∃ x, xs[k]? = some x := ⟨_, List.getElem?_eq_getElem (by have := HLN.out; omega)⟩
          have hxb := (Mh.size_pos h0 (show d < Mh.size xs by rw [HS.out]; exact h1)).2 x (List.mem_of_getElem? hx)
          obtain ⟨q, rfl⟩ := Int.eq_ofNat_of_zero_le (show 0 ≤ x by omega)
          have HG := Lib.hid (show Mh.group xs d k = (List.range q).map fun (x : Nat) => Mh.index xs ((Sh.place xs d).set k x) by
            unfold Mh.group
            rw [if_pos ⟨h0, by rw [HS.out]; exact h1, by omega, by rw [HLN.out]; omega⟩]
            simp only [Int.toNat_natCast]
            rw [List.getD_eq_getElem?_getD, hx]; rfl)
          have HX := Lib.hid hx
          have HPL := Lib.hid (show (Sh.place xs d).length = n by rw [Sh.place_length]; exact HLN.out)
          obtain ⟨P, hP⟩ : ∃ P, Sh.place xs d = P := ⟨_, rfl⟩
          rw [hP] at HA HG HPL
          clear hx hP
          have dn : decide ((n : Int) ≤ (k : Int)) = false := by simp; omega
          have dnn : decide (n ≤ k) = false := by simp; omega
          rw [HG.out]
          go_enter Try.func22, Try.ntmps22
          go_wp2_with (go_at_call 20; refine HC.out.mono ?_; rintro e w' ⟨rfl, rfl⟩)
          refine HA.out.mono ?_; rintro e1 w1 ⟨⟨v1, m1, rfl, hO⟩, hb1⟩
          have hm1 : m1 = n := by have := hO.len; have := HPL.out; omega
          subst hm1
          obtain ⟨gP, cP, rfl⟩ := form14 hO (by omega)
          have H := Lib.hid (((Sep.nil w).addOwn hb1 hO).addNilL 3)
          clear hO hb1 HA HC
          go_wp2_with fail
          go_loopw [8, 9] (fun ov iv wr => ∃ (i : Nat) (R : List Int) (vo : Value), vo = ov ∧ iv = .int .i64 i ∧ i ≤ q ∧ R.length = m1 ∧ (∀ y, R.set k y = P.set k y) ∧ Sep w wr [.own 3 vo i ((List.range i).map fun (x : Nat) => Mh.index xs (P.set k x)), .own 3 (.slice (some ⟨gP, 0, none⟩) m1 cP) m1 R]) (fun _ iv _ => q - (intOf iv).toNat)
          case atStart => exact ⟨0, P, _, rfl, rfl, by omega, HPL.out, fun _ => rfl, H.out⟩
          case round =>
            clear H
            obtain ⟨i, R, vo, rfl, rfl, hi, hRL, hR, hSp⟩ := hrel
            have H := Lib.hid hSp
            have HR := Lib.hid hR
            have HRL := Lib.hid hRL
            clear hSp hR hRL
            obtain ⟨ad, x9, rfl, hb9, hx9, hc9, hf9⟩ := (HI.out.below H.out.base).at_ h3
            have e9 : x9 = (q : Int) := by have := HX.out; rw [this] at hx9; injection hx9 with hx9; exact hx9.symm
            subst e9
            clear hx9
            by_cases hlt : i < q
            · have dl : decide ((i : Int) < (q : Int)) = true := by simp; omega
              have dln : decide (i < q) = true := by simpa using hlt
              obtain ⟨y0, hy0⟩ : ∃ y, R[k]? = some y := ⟨_, List.getElem?_eq_getElem (by have := HRL.out; omega)⟩
              have hcy := (H.out.own 1 rfl).cell hy0
              have hfz := (H.out.own 1 rfl).frozen k
              have h9 := H.out.store 1 k (x := (i : Int)) ⟨by omega, by omega⟩ rfl
              go_upto_region 9 with fail
              generalize wr.setCell ⟨gP, k, none⟩ (.int .i64 i) = w5 at *
              replace H := Lib.hid (show Sep w w5 [.own 3 vo i ((List.range i).map fun (x : Nat) => Mh.index xs (P.set k x)), .own 3 (.slice (some ⟨gP, 0, none⟩) m1 cP) m1 (P.set k i)] from by have h8 := h9; rw [HR.out] at h8; exact h8)
              clear h9 hcy hfz hy0 hc9
              have C5 := ref14Of_any (c := c) (d := cP) (HI.out.below H.out.base) (H.out.own 1 rfl).ints
              obtain ⟨Y, hY⟩ : ∃ Y, Mh.index xs (P.set k i) = Y := ⟨_, rfl⟩
              have HFY : Hid (Fits Y) := Lib.hid (by rw [← hY]; exact mh_index_fits)
              rw [hY] at C5
              have HY := Lib.hid hY
              clear hY
              go_wp2_with fail
              refine C5.mono ?_; rintro e6 w6 ⟨rfl, z, hw6⟩
              replace H := Lib.hid (H.out.drewN z)
              rw [← hw6] at H
              clear hw6 C5
              go_wp2_with (at_builtin; refine wpList_append_sepL rfl (.tmp 43) (.tmp 47) 24 3 rfl Try.underlying24 Try.infoInt H.out 0 rfl rfl Y HFY.out _ rfl ?c1 ?_)
              case c1 => omega
              intro v' w' h'
              have H8 := Lib.hid h'
              clear h'
              go_wp2
              go_roundw
              case rel => exact ⟨i + 1, P.set k i, _, rfl, by go_num, by omega, by rw [List.length_set]; exact HPL.out, fun y => by rw [List.set_set], by rw [List.range_succ, List.map_append, List.map_singleton, HY.out]; exact H8.out⟩
              case measure => simp [intOf]; omega
            · obtain rfl : q = i := by omega
              have dl : decide ((q : Int) < (q : Int)) = false := by simp
              have dln : decide (q < q) = false := by simp
              go_wp2
              go_ret
              exact ⟨⟨_, _, rfl, H.out.ownS 0 rfl⟩, H.out.base⟩
        · have HG := Lib.hid (show Mh.group xs d k = [] by unfold Mh.group; rw [if_neg (by have := HLN.out; omega)])
          have dn : decide ((n : Int) ≤ (k : Int)) = true := by simp; omega
          have dnn : decide (n ≤ k) = true := by simp; omega
          rw [HG.out]
          go_enter Try.func22, Try.ntmps22
          go_wp2_with (go_at_call 20; refine HC.out.mono ?_; rintro e w' ⟨rfl, rfl⟩)
          go_ret
          exact MakesL.none_ w _
      · have HG := Lib.hid (show Mh.group xs d a = [] by unfold Mh.group; rw [if_neg (by omega)])
        rw [HG.out]
        go_enter Try.func22, Try.ntmps22
        go_wp2_with (go_at_call 20; refine HC.out.mono ?_; rintro e w' ⟨rfl, rfl⟩)
        go_ret
        exact MakesL.none_ w _
    · have HG := Lib.hid (show Mh.group xs d a = [] by unfold Mh.group; rw [if_neg (by rw [HS.out]; omega)])
      rw [HG.out]
      go_enter Try.func22, Try.ntmps22
      go_wp2_with (go_at_call 20; refine HC.out.mono ?_; rintro e w' ⟨rfl, rfl⟩)
      go_ret
      exact MakesL.none_ w _
  · have HG := Lib.hid (show Mh.group xs d a = [] by unfold Mh.group; rw [if_neg (by omega)])
    rw [HG.out]
    go_enter Try.func22, Try.ntmps22
    go_wp2_with fail
    go_ret
    exact MakesL.none_ w _
set_option maxRecDepth 100000 in
set_option maxHeartbeats 1600000 in
theorem ref14Step_any {w : World} {A : Option Addr} {n c : Nat} {xs : List Int} (d a b : Int) (h : Ints w A n xs) (hd : Fits d) (ha : Fits a) (hb : Fits b) :
    Calls Try.prog 23 #[.slice A n c, .int .i64 d, .int .i64 a, .int .i64 b] w fun e w' => e = .returned (.int .i64 (Mh.step xs d a b)) ∧ Below w.heap.size w w' := by
  have C1 := ref14Group_any (c := c) d a h hd ha
  have HCA := Lib.hid (fun (w' : World) (hb : Below w.heap.size w w') => ref14At_any (c := c) d (h.below hb) hd)
  have HLN := Lib.hid h.len
  have hle := h.le
  obtain ⟨b1, b2⟩ := hb
  obtain ⟨a1, a2⟩ := ha
  obtain ⟨Gr, hGr⟩ : ∃ G, Mh.group xs d a = G := ⟨_, rfl⟩
  have HGR := Lib.hid hGr
  rw [hGr] at C1
  clear hGr hd h
  go_enter Try.func23, Try.ntmps23
  go_wp2_with fail
  refine C1.mono ?_; rintro e1 w1 ⟨⟨v, m, rfl, hO⟩, hb1⟩
  have HB1 := Lib.hid hb1
  obtain ⟨Ag, cg, rfl, hcg, hIg, _⟩ := hO.form
  have HML := Lib.hid hO.len
  have HIG := Lib.hid hIg
  clear C1 hb1 hO hIg
  by_cases h0 : m = 0
  · subst h0
    have HV := Lib.hid (show Mh.step xs d a b = -1 by unfold Mh.step; rw [HGR.out, if_pos HML.out])
    go_wp2
    go_ret
    exact ⟨ret_int HV.out.symm, HB1.out⟩
  · obtain ⟨c1, c2, c3, c4⟩ := Mh.group_cond (s := xs) (i := d) (k := a) (by rw [HGR.out, HML.out]; exact h0)
    obtain ⟨k, rfl⟩ := Int.eq_ofNat_of_zero_le c3
    have hkn : k < n := by have := HLN.out; omega
    have dz : ((m : Int) == 0) = false := by simp; omega
    have HCP := Lib.hid (fun (w' : World) (hb : Below w.heap.size w w') => show Calls Try.prog 9 #[.slice A n c, .int .i64 d] w' fun e w'' => MakesL w' 3 (Sh.place xs d) e w'' from by have h9 := HCA.out w' hb; rwa [Mh.placeOf, if_pos ⟨c1, c2⟩] at h9)
    have HD1 := Lib.hid (below_drewN HB1.out 1)
    have HPL := Lib.hid (show (Sh.place xs d).length = n by rw [Sh.place_length]; exact HLN.out)
    obtain ⟨x, hx⟩ : ∃ x, (Sh.place xs d)[k]? = some x := ⟨_, List.getElem?_eq_getElem (by have := HPL.out; omega)⟩
    have hxb : 0 ≤ x ∧ x ≤ 8 := by
      obtain ⟨y, hy⟩ : ∃ y, xs[k]? = some y := ⟨_, List.getElem?_eq_getElem (by have := HLN.out; omega)⟩
      have h9 := (Mh.size_pos c1 c2).2 y (List.mem_of_getElem? hy)
      rw [Sh.place_at hy] at hx
      injection hx with hx
      have h7 := Int.emod_nonneg (d / Sh.pd (xs.drop (k + 1))) (show y ≠ 0 by omega)
      have h8 := Int.emod_lt_of_pos (d / Sh.pd (xs.drop (k + 1))) (show 0 < y by omega)
      omega
    obtain ⟨x1, x2⟩ := hxb
    have hm9 := HIG.out.le
    have hmp : (0 : Int) < (m : Int) := by omega
    obtain ⟨p1, p2, _⟩ := Mh.tmod_bd (a := b) hmp
    obtain ⟨q1, q2, _⟩ := Mh.tmod_bd (a := x + b.tmod m) hmp
    obtain ⟨r1, r2, r3⟩ := Mh.tmod_bd (a := (x + b.tmod m).tmod m + m) hmp
    replace r3 := r3 (by omega)
    have hmb : m ≤ 8 := by
      have h1 := HML.out
      rw [← HGR.out] at h1
      unfold Mh.group at h1
      rw [if_pos ⟨c1, c2, c3, c4⟩, List.length_map, List.length_range, Int.toNat_natCast, List.getD_eq_getElem?_getD] at h1
      obtain ⟨y, hy⟩ : ∃ y, xs[k]? = some y := ⟨_, List.getElem?_eq_getElem (by have := HLN.out; omega)⟩
      have h9 := (Mh.size_pos c1 c2).2 y (List.mem_of_getElem? hy)
      rw [hy] at h1
      have h2 : y.toNat = m := h1
      omega
    obtain ⟨j, hj⟩ := Int.eq_ofNat_of_zero_le r3
    have hjm : j < m := by omega
    obtain ⟨y, hy⟩ : ∃ y, Gr[j]? = some y := ⟨_, List.getElem?_eq_getElem (by have := HML.out; omega)⟩
    have HV := Lib.hid (show Mh.step xs d k b = y by
      unfold Mh.step
      rw [HGR.out, if_neg (by rw [HML.out]; exact h0), HML.out, Int.toNat_natCast, List.getD_eq_getElem?_getD, List.getD_eq_getElem?_getD, hx]
      show Gr[(Mh.turn x b m).toNat]?.getD 0 = y
      unfold Mh.turn
      rw [hj, Int.toNat_natCast, hy]; rfl)
    have HX := Lib.hid hx
    have HY := Lib.hid hy
    clear hx hy HCA r1 r2
    have w1e : IntKind.i64.wrap (b.tmod m) = b.tmod m := IntWalk.i64_in _ ⟨by omega, by omega⟩
    have w2e : IntKind.i64.wrap (x + b.tmod m) = x + b.tmod m := IntWalk.i64_in _ ⟨by omega, by omega⟩
    have w3e : IntKind.i64.wrap ((x + b.tmod m).tmod m) = (x + b.tmod m).tmod m := IntWalk.i64_in _ ⟨by omega, by omega⟩
    have w4e : IntKind.i64.wrap ((x + b.tmod m).tmod m + m) = (x + b.tmod m).tmod m + m := IntWalk.i64_in _ ⟨by omega, by omega⟩
    have w5e : IntKind.i64.wrap (((x + b.tmod m).tmod m + m).tmod m) = (j : Int) := by rw [hj]; exact IntWalk.i64_in _ ⟨by omega, by omega⟩
    have hmz : ((m : Int) == 0) = false := dz
    go_upto_region 5 with fail
    refine wp_region_held_drew (S := (fun _ => True)) (by kernel_rfl) ?_ (fun hHeld => ?_)
    · trivial
    first | (refine takeU (i := 0) (oi := { dst := some 20, op := Op.move (Operand.tmp 9), type := 24, pos := "ref.go:77", after := #[], guard := none }) rfl (by kernel_rfl) (by kernel_rfl) (by kernel_rfl) (fun _ _ _ h => h) ?_ hHeld ?_; (focus rfl)) | (refine takeW (i := 0) (oi := { dst := some 20, op := Op.move (Operand.tmp 9), type := 24, pos := "ref.go:77", after := #[], guard := none }) ?_ rfl (by kernel_rfl) (by kernel_rfl) (by kernel_rfl) (fun _ _ _ h => h) ?_ ?_ hHeld ?_; rotate_left; (focus rfl); (focus (intro wq hSq; obtain _ := hSq; (first | (go_simp; done) | (go_simp; with_reducible rfl)))))
    try simp only [Act.put, List.setIfInBounds_toArray, List.set_cons_zero, List.set_cons_succ]
    first | (refine takeU (i := 1) (oi := { dst := some 21, op := Op.move (Operand.tmp 0), type := 24, pos := "ref.go:77", after := #[], guard := none }) rfl (by kernel_rfl) (by kernel_rfl) (by kernel_rfl) (fun _ _ _ h => h) ?_ hHeld ?_; (focus rfl)) | (refine takeW (i := 1) (oi := { dst := some 21, op := Op.move (Operand.tmp 0), type := 24, pos := "ref.go:77", after := #[], guard := none }) ?_ rfl (by kernel_rfl) (by kernel_rfl) (by kernel_rfl) (fun _ _ _ h => h) ?_ ?_ hHeld ?_; rotate_left; (focus rfl); (focus (intro wq hSq; obtain _ := hSq; (first | (go_simp; done) | (go_simp; with_reducible rfl)))))
    try simp only [Act.put, List.setIfInBounds_toArray, List.set_cons_zero, List.set_cons_succ]
    first | (refine takeU (i := 2) (oi := { dst := some 22, op := Op.move (Operand.tmp 1), type := 3, pos := "ref.go:77", after := #[], guard := none }) rfl (by kernel_rfl) (by kernel_rfl) (by kernel_rfl) (fun _ _ _ h => h) ?_ hHeld ?_; (focus rfl)) | (refine takeW (i := 2) (oi := { dst := some 22, op := Op.move (Operand.tmp 1), type := 3, pos := "ref.go:77", after := #[], guard := none }) ?_ rfl (by kernel_rfl) (by kernel_rfl) (by kernel_rfl) (fun _ _ _ h => h) ?_ ?_ hHeld ?_; rotate_left; (focus rfl); (focus (intro wq hSq; obtain _ := hSq; (first | (go_simp; done) | (go_simp; with_reducible rfl)))))
    try simp only [Act.put, List.setIfInBounds_toArray, List.set_cons_zero, List.set_cons_succ]
    first | (refine takeU (i := 4) (oi := { dst := some 24, op := Op.move (Operand.tmp 2), type := 3, pos := "ref.go:77", after := #[], guard := none }) rfl (by kernel_rfl) (by kernel_rfl) (by kernel_rfl) (fun _ _ _ h => h) ?_ hHeld ?_; (focus rfl)) | (refine takeW (i := 4) (oi := { dst := some 24, op := Op.move (Operand.tmp 2), type := 3, pos := "ref.go:77", after := #[], guard := none }) ?_ rfl (by kernel_rfl) (by kernel_rfl) (by kernel_rfl) (fun _ _ _ h => h) ?_ ?_ hHeld ?_; rotate_left; (focus rfl); (focus (intro wq hSq; obtain _ := hSq; (first | (go_simp; done) | (go_simp; with_reducible rfl)))))
    try simp only [Act.put, List.setIfInBounds_toArray, List.set_cons_zero, List.set_cons_succ]
    first | (refine takeU (i := 7) (oi := { dst := some 27, op := Op.move (Operand.tmp 3), type := 3, pos := "ref.go:77", after := #[], guard := none }) rfl (by kernel_rfl) (by kernel_rfl) (by kernel_rfl) (fun _ _ _ h => h) ?_ hHeld ?_; (focus rfl)) | (refine takeW (i := 7) (oi := { dst := some 27, op := Op.move (Operand.tmp 3), type := 3, pos := "ref.go:77", after := #[], guard := none }) ?_ rfl (by kernel_rfl) (by kernel_rfl) (by kernel_rfl) (fun _ _ _ h => h) ?_ ?_ hHeld ?_; rotate_left; (focus rfl); (focus (intro wq hSq; obtain _ := hSq; (first | (go_simp; done) | (go_simp; with_reducible rfl)))))
    try simp only [Act.put, List.setIfInBounds_toArray, List.set_cons_zero, List.set_cons_succ]
    first | (refine takeU (i := 8) (oi := { dst := some 28, op := Op.move (Operand.tmp 10), type := 3, pos := "ref.go:77", after := #[], guard := none }) rfl (by kernel_rfl) (by kernel_rfl) (by kernel_rfl) (fun _ _ _ h => h) ?_ hHeld ?_; (focus rfl)) | (refine takeW (i := 8) (oi := { dst := some 28, op := Op.move (Operand.tmp 10), type := 3, pos := "ref.go:77", after := #[], guard := none }) ?_ rfl (by kernel_rfl) (by kernel_rfl) (by kernel_rfl) (fun _ _ _ h => h) ?_ ?_ hHeld ?_; rotate_left; (focus rfl); (focus (intro wq hSq; obtain _ := hSq; (first | (go_simp; done) | (go_simp; with_reducible rfl)))))
    try simp only [Act.put, List.setIfInBounds_toArray, List.set_cons_zero, List.set_cons_succ]
    first | (refine takeU (i := 9) (oi := { dst := some 29, op := Op.binOp BinOp.rem 3 (Operand.tmp 27) (Operand.tmp 28) 3, type := 3, pos := "ref.go:77", after := #[{ on := 7, ground := Ground.data }, { on := 8, ground := Ground.data }], guard := none }) rfl (by kernel_rfl) (by kernel_rfl) (by kernel_rfl) (fun _ _ _ h => h) ?_ hHeld ?_; (focus rfl)) | (refine takeW (i := 9) (oi := { dst := some 29, op := Op.binOp BinOp.rem 3 (Operand.tmp 27) (Operand.tmp 28) 3, type := 3, pos := "ref.go:77", after := #[{ on := 7, ground := Ground.data }, { on := 8, ground := Ground.data }], guard := none }) ?_ rfl (by kernel_rfl) (by kernel_rfl) (by kernel_rfl) (fun _ _ _ h => h) ?_ ?_ hHeld ?_; rotate_left; (focus rfl); (focus (intro wq hSq; obtain _ := hSq; (first | (go_simp; done) | (go_simp; with_reducible rfl)))))
    try simp only [Act.put, List.setIfInBounds_toArray, List.set_cons_zero, List.set_cons_succ]
    first | (refine takeU (i := 11) (oi := { dst := some 31, op := Op.move (Operand.tmp 10), type := 3, pos := "ref.go:77", after := #[], guard := none }) rfl (by kernel_rfl) (by kernel_rfl) (by kernel_rfl) (fun _ _ _ h => h) ?_ hHeld ?_; (focus rfl)) | (refine takeW (i := 11) (oi := { dst := some 31, op := Op.move (Operand.tmp 10), type := 3, pos := "ref.go:77", after := #[], guard := none }) ?_ rfl (by kernel_rfl) (by kernel_rfl) (by kernel_rfl) (fun _ _ _ h => h) ?_ ?_ hHeld ?_; rotate_left; (focus rfl); (focus (intro wq hSq; obtain _ := hSq; (first | (go_simp; done) | (go_simp; with_reducible rfl)))))
    try simp only [Act.put, List.setIfInBounds_toArray, List.set_cons_zero, List.set_cons_succ]
    first | (refine takeU (i := 13) (oi := { dst := some 33, op := Op.move (Operand.tmp 10), type := 3, pos := "ref.go:77", after := #[], guard := none }) rfl (by kernel_rfl) (by kernel_rfl) (by kernel_rfl) (fun _ _ _ h => h) ?_ hHeld ?_; (focus rfl)) | (refine takeW (i := 13) (oi := { dst := some 33, op := Op.move (Operand.tmp 10), type := 3, pos := "ref.go:77", after := #[], guard := none }) ?_ rfl (by kernel_rfl) (by kernel_rfl) (by kernel_rfl) (fun _ _ _ h => h) ?_ ?_ hHeld ?_; rotate_left; (focus rfl); (focus (intro wq hSq; obtain _ := hSq; (first | (go_simp; done) | (go_simp; with_reducible rfl)))))
    try simp only [Act.put, List.setIfInBounds_toArray, List.set_cons_zero, List.set_cons_succ]
    first | (refine takeU (i := 15) (oi := { dst := some 35, op := Op.move (Operand.tmp 10), type := 3, pos := "ref.go:77", after := #[], guard := none }) rfl (by kernel_rfl) (by kernel_rfl) (by kernel_rfl) (fun _ _ _ h => h) ?_ hHeld ?_; (focus rfl)) | (refine takeW (i := 15) (oi := { dst := some 35, op := Op.move (Operand.tmp 10), type := 3, pos := "ref.go:77", after := #[], guard := none }) ?_ rfl (by kernel_rfl) (by kernel_rfl) (by kernel_rfl) (fun _ _ _ h => h) ?_ ?_ hHeld ?_; rotate_left; (focus rfl); (focus (intro wq hSq; obtain _ := hSq; (first | (go_simp; done) | (go_simp; with_reducible rfl)))))
    try simp only [Act.put, List.setIfInBounds_toArray, List.set_cons_zero, List.set_cons_succ]
    refine wpAnyH_ready (rs := [3]) (by kernel_rfl) (by simp) ?_
    refine (AllReadyH.cons (o := { dst := some 23, op := Op.call { callee := Callee.value (Operand.func 9), args := #[Operand.tmp 21, Operand.tmp 22], argTypes := #[24, 3] }, type := 24, pos := "ref.go:77", after := #[{ on := 1, ground := Ground.data }, { on := 2, ground := Ground.data }], guard := none }) rfl (fun K hK => ?_) AllReadyH.nil)
    first | (refine effU ?_ ?_; (focus rfl)) | (go_simp; (go_at_call 9; refine (HCP.out _ HD1.out).mono ?_; rintro e2 w2 ⟨⟨v2, m2, rfl, hO2⟩, hb2⟩; obtain ⟨A2, cc2, rfl, hcc2, hI2, _⟩ := hO2.form; have hm2 : m2 = n := (by have := hO2.len; have := HPL.out; omega); subst hm2; obtain ⟨adx, x9, rfl, hbx, hx9, hcx, hfx⟩ := hI2.at_ hkn; have e9 : x9 = x := (by have := HX.out; rw [this] at hx9; injection hx9 with hx9; exact hx9.symm); subst e9; obtain ⟨ady, y9, rfl, hby, hy9, hcy, hfy⟩ := ((HIG.out.below (below_drewN (Below.refl _ _) 1)).below hb2).at_ hjm; have e8 : y9 = y := (by have := HY.out; rw [this] at hy9; injection hy9 with hy9; exact hy9.symm); subst e8; have HB2 := Lib.hid (then_ HD1.out hb2); clear hO2 hI2 hx9 hy9 hb2); go_wp2_with fail)
    refine hK.out _ _ ?_ (fun hHeld2 => ?_)
    · first | with_reducible assumption | (trivial) | assumption
    clear hK K hHeld
    have hHeld := hHeld2; clear hHeld2
    try simp only [Act.put, List.setIfInBounds_toArray, List.set_cons_zero, List.set_cons_succ]
    first | (refine takeU (i := 5) (oi := { dst := some 25, op := Op.indexAddr 24 (Operand.tmp 23) (Operand.tmp 24), type := 0, pos := "ref.go:77", after := #[{ on := 3, ground := Ground.data }, { on := 4, ground := Ground.data }], guard := none }) rfl (by kernel_rfl) (by kernel_rfl) (by kernel_rfl) (fun _ _ _ h => h) ?_ hHeld ?_; (focus rfl)) | (refine takeW (i := 5) (oi := { dst := some 25, op := Op.indexAddr 24 (Operand.tmp 23) (Operand.tmp 24), type := 0, pos := "ref.go:77", after := #[{ on := 3, ground := Ground.data }, { on := 4, ground := Ground.data }], guard := none }) ?_ rfl (by kernel_rfl) (by kernel_rfl) (by kernel_rfl) (fun _ _ _ h => h) ?_ ?_ hHeld ?_; rotate_left; (focus rfl); (focus (intro wq hSq; obtain _ := hSq; (first | (go_simp; done) | (go_simp; with_reducible rfl)))))
    try simp only [Act.put, List.setIfInBounds_toArray, List.set_cons_zero, List.set_cons_succ]
    refine wpAnyH_ready (rs := [6]) (by kernel_rfl) (by simp) ?_
    refine (AllReadyH.cons (o := { dst := some 26, op := Op.load 3 (Operand.tmp 25), type := 3, pos := "ref.go:77", after := #[{ on := 5, ground := Ground.data }], guard := none }) rfl (fun K hK => ?_) AllReadyH.nil)
    (skip)
    go_simp
    try go_wp2_with fail
    refine hK.out _ _ ?_ (fun hHeld2 => ?_)
    · first | with_reducible assumption | (trivial) | assumption
    clear hK K hHeld
    have hHeld := hHeld2; clear hHeld2
    try simp only [Act.put, List.setIfInBounds_toArray, List.set_cons_zero, List.set_cons_succ]
    first | (refine takeU (i := 10) (oi := { dst := some 30, op := Op.binOp BinOp.add 3 (Operand.tmp 26) (Operand.tmp 29) 3, type := 3, pos := "ref.go:77", after := #[{ on := 6, ground := Ground.data }, { on := 9, ground := Ground.data }], guard := none }) rfl (by kernel_rfl) (by kernel_rfl) (by kernel_rfl) (fun _ _ _ h => h) ?_ hHeld ?_; (focus rfl)) | (refine takeW (i := 10) (oi := { dst := some 30, op := Op.binOp BinOp.add 3 (Operand.tmp 26) (Operand.tmp 29) 3, type := 3, pos := "ref.go:77", after := #[{ on := 6, ground := Ground.data }, { on := 9, ground := Ground.data }], guard := none }) ?_ rfl (by kernel_rfl) (by kernel_rfl) (by kernel_rfl) (fun _ _ _ h => h) ?_ ?_ hHeld ?_; rotate_left; (focus rfl); (focus (intro wq hSq; obtain _ := hSq; (first | (go_simp; done) | (go_simp; with_reducible rfl)))))
    try simp only [Act.put, List.setIfInBounds_toArray, List.set_cons_zero, List.set_cons_succ]
    first | (refine takeU (i := 12) (oi := { dst := some 32, op := Op.binOp BinOp.rem 3 (Operand.tmp 30) (Operand.tmp 31) 3, type := 3, pos := "ref.go:77", after := #[{ on := 10, ground := Ground.data }, { on := 11, ground := Ground.data }], guard := none }) rfl (by kernel_rfl) (by kernel_rfl) (by kernel_rfl) (fun _ _ _ h => h) ?_ hHeld ?_; (focus rfl)) | (refine takeW (i := 12) (oi := { dst := some 32, op := Op.binOp BinOp.rem 3 (Operand.tmp 30) (Operand.tmp 31) 3, type := 3, pos := "ref.go:77", after := #[{ on := 10, ground := Ground.data }, { on := 11, ground := Ground.data }], guard := none }) ?_ rfl (by kernel_rfl) (by kernel_rfl) (by kernel_rfl) (fun _ _ _ h => h) ?_ ?_ hHeld ?_; rotate_left; (focus rfl); (focus (intro wq hSq; obtain _ := hSq; (first | (go_simp; done) | (go_simp; with_reducible rfl)))))
    try simp only [Act.put, List.setIfInBounds_toArray, List.set_cons_zero, List.set_cons_succ]
    first | (refine takeU (i := 14) (oi := { dst := some 34, op := Op.binOp BinOp.add 3 (Operand.tmp 32) (Operand.tmp 33) 3, type := 3, pos := "ref.go:77", after := #[{ on := 12, ground := Ground.data }, { on := 13, ground := Ground.data }], guard := none }) rfl (by kernel_rfl) (by kernel_rfl) (by kernel_rfl) (fun _ _ _ h => h) ?_ hHeld ?_; (focus rfl)) | (refine takeW (i := 14) (oi := { dst := some 34, op := Op.binOp BinOp.add 3 (Operand.tmp 32) (Operand.tmp 33) 3, type := 3, pos := "ref.go:77", after := #[{ on := 12, ground := Ground.data }, { on := 13, ground := Ground.data }], guard := none }) ?_ rfl (by kernel_rfl) (by kernel_rfl) (by kernel_rfl) (fun _ _ _ h => h) ?_ ?_ hHeld ?_; rotate_left; (focus rfl); (focus (intro wq hSq; obtain _ := hSq; (first | (go_simp; done) | (go_simp; with_reducible rfl)))))
    try simp only [Act.put, List.setIfInBounds_toArray, List.set_cons_zero, List.set_cons_succ]
    first | (refine takeU (i := 16) (oi := { dst := some 36, op := Op.binOp BinOp.rem 3 (Operand.tmp 34) (Operand.tmp 35) 3, type := 3, pos := "ref.go:77", after := #[{ on := 14, ground := Ground.data }, { on := 15, ground := Ground.data }], guard := none }) rfl (by kernel_rfl) (by kernel_rfl) (by kernel_rfl) (fun _ _ _ h => h) ?_ hHeld ?_; (focus rfl)) | (refine takeW (i := 16) (oi := { dst := some 36, op := Op.binOp BinOp.rem 3 (Operand.tmp 34) (Operand.tmp 35) 3, type := 3, pos := "ref.go:77", after := #[{ on := 14, ground := Ground.data }, { on := 15, ground := Ground.data }], guard := none }) ?_ rfl (by kernel_rfl) (by kernel_rfl) (by kernel_rfl) (fun _ _ _ h => h) ?_ ?_ hHeld ?_; rotate_left; (focus rfl); (focus (intro wq hSq; obtain _ := hSq; (first | (go_simp; done) | (go_simp; with_reducible rfl)))))
    try simp only [Act.put, List.setIfInBounds_toArray, List.set_cons_zero, List.set_cons_succ]
    first | (refine takeU (i := 17) (oi := { dst := some 37, op := Op.indexAddr 24 (Operand.tmp 20) (Operand.tmp 36), type := 0, pos := "ref.go:77", after := #[{ on := 0, ground := Ground.data }, { on := 16, ground := Ground.data }], guard := none }) rfl (by kernel_rfl) (by kernel_rfl) (by kernel_rfl) (fun _ _ _ h => h) ?_ hHeld ?_; (focus rfl)) | (refine takeW (i := 17) (oi := { dst := some 37, op := Op.indexAddr 24 (Operand.tmp 20) (Operand.tmp 36), type := 0, pos := "ref.go:77", after := #[{ on := 0, ground := Ground.data }, { on := 16, ground := Ground.data }], guard := none }) ?_ rfl (by kernel_rfl) (by kernel_rfl) (by kernel_rfl) (fun _ _ _ h => h) ?_ ?_ hHeld ?_; rotate_left; (focus rfl); (focus (intro wq hSq; obtain _ := hSq; (first | (go_simp; done) | (go_simp; with_reducible rfl)))))
    try simp only [Act.put, List.setIfInBounds_toArray, List.set_cons_zero, List.set_cons_succ]
    refine wpAnyH_ready (rs := [18]) (by kernel_rfl) (by simp) ?_
    refine (AllReadyH.cons (o := { dst := some 38, op := Op.load 3 (Operand.tmp 37), type := 3, pos := "ref.go:77", after := #[{ on := 17, ground := Ground.data }], guard := none }) rfl (fun K hK => ?_) AllReadyH.nil)
    (skip)
    go_simp
    try go_wp2_with fail
    refine hK.out _ _ ?_ (fun hHeld2 => ?_)
    · first | with_reducible assumption | (trivial) | assumption
    clear hK K hHeld
    have hHeld := hHeld2; clear hHeld2
    try simp only [Act.put, List.setIfInBounds_toArray, List.set_cons_zero, List.set_cons_succ]
    first | (refine takeU (i := 19) (oi := { dst := some 8, op := Op.assign (Operand.tmp 38), type := 3, pos := "ref.go:77", after := #[{ on := 18, ground := Ground.data }, { on := 3, ground := Ground.chain }, { on := 0, ground := Ground.phase }, { on := 1, ground := Ground.phase }, { on := 2, ground := Ground.phase }, { on := 3, ground := Ground.phase }, { on := 4, ground := Ground.phase }, { on := 5, ground := Ground.phase }, { on := 6, ground := Ground.phase }, { on := 7, ground := Ground.phase }, { on := 8, ground := Ground.phase }, { on := 9, ground := Ground.phase }, { on := 10, ground := Ground.phase }, { on := 11, ground := Ground.phase }, { on := 12, ground := Ground.phase }, { on := 13, ground := Ground.phase }, { on := 14, ground := Ground.phase }, { on := 15, ground := Ground.phase }, { on := 16, ground := Ground.phase }, { on := 17, ground := Ground.phase }, { on := 18, ground := Ground.phase }], guard := none }) rfl (by kernel_rfl) (by kernel_rfl) (by kernel_rfl) (fun _ _ _ h => h) ?_ hHeld ?_; (focus rfl)) | (refine takeW (i := 19) (oi := { dst := some 8, op := Op.assign (Operand.tmp 38), type := 3, pos := "ref.go:77", after := #[{ on := 18, ground := Ground.data }, { on := 3, ground := Ground.chain }, { on := 0, ground := Ground.phase }, { on := 1, ground := Ground.phase }, { on := 2, ground := Ground.phase }, { on := 3, ground := Ground.phase }, { on := 4, ground := Ground.phase }, { on := 5, ground := Ground.phase }, { on := 6, ground := Ground.phase }, { on := 7, ground := Ground.phase }, { on := 8, ground := Ground.phase }, { on := 9, ground := Ground.phase }, { on := 10, ground := Ground.phase }, { on := 11, ground := Ground.phase }, { on := 12, ground := Ground.phase }, { on := 13, ground := Ground.phase }, { on := 14, ground := Ground.phase }, { on := 15, ground := Ground.phase }, { on := 16, ground := Ground.phase }, { on := 17, ground := Ground.phase }, { on := 18, ground := Ground.phase }], guard := none }) ?_ rfl (by kernel_rfl) (by kernel_rfl) (by kernel_rfl) (fun _ _ _ h => h) ?_ ?_ hHeld ?_; rotate_left; (focus rfl); (focus (intro wq hSq; obtain _ := hSq; (first | (go_simp; done) | (go_simp; with_reducible rfl)))))
    try simp only [Act.put, List.setIfInBounds_toArray, List.set_cons_zero, List.set_cons_succ]
    refine wpAnyH_done (by kernel_rfl) ?_ _
    go_wp2
    go_ret
    exact ⟨ret_int HV.out.symm, HB2.out⟩
end Go.Proofs.Ythhfjbhopenchaa
