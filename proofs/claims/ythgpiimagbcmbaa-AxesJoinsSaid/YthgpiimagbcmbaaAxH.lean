/- Contracts of package axes' checks. -/
import Derived.Test.YthgpiimagbcmbaaAxG
import Derived.Test.YthgpiimagbcmbaaPlaceO
import Derived.Test.YthgpiimagbcmbaaSepB
import Derived.Test.YthgpiimagbcmbaaKitReg
namespace Go.Proofs.Ythgpiimagbcmbaa
open Go.RowKit

/-- A call answers whether p. -/
def Asks (e : Ending) (p : Prop) : Prop := ∃ b, e = .returned (.bool b) ∧ (b = true ↔ p)
theorem asks_yes {p : Prop} (h : p) : Asks (.returned (.bool true)) p := ⟨true, rfl, by simp; exact h⟩
theorem asks_no {p : Prop} (h : ¬ p) : Asks (.returned (.bool false)) p := ⟨false, rfl, by simp; exact h⟩
/-- Axes of that rank, in order. -/
def RiseAt (a : List Int) (r k : Nat) : Prop := ∀ x, a[k]? = some x → 0 ≤ x ∧ x < r ∧ ∀ z, 0 < k → a[k - 1]? = some z → z < x
def Rise (a : List Int) (r : Nat) : Prop := ∀ k, RiseAt a r k
set_option maxHeartbeats 800000 in
theorem rising_any {w : World} {A : Option Addr} {n c : Nat} {a : List Int} (r : Nat) (h : Ints w A n a) (hr : r ≤ 4) :
    Calls Try.prog 39 #[.slice A n c, .int .i64 r] w fun e w' => Asks e (Rise a r) ∧ w = w' := by
  have hn := h.len
  have hle := h.le
  have H1 := Lib.hid hn; clear hn
  go_enter Try.func39, Try.ntmps39
  go_wp2
  go_loop [5, 10] (fun last i => ∃ (k : Nat) (l : Int), k ≤ n ∧ i = .int .i64 k ∧ last = .int .i64 l ∧ -1 ≤ l ∧ l ≤ 4 ∧ (∀ j, j < k → RiseAt a r j) ∧ (∀ z, 0 < k → a[k - 1]? = some z → z = l) ∧ (k = 0 → l = -1)) (fun _ i => n - (intOf i).toNat)
  case atStart => exact ⟨0, -1, Nat.zero_le _, rfl, rfl, by omega, by omega, fun j hj => by omega, fun z hz => by omega, fun _ => rfl⟩
  case round =>
    obtain ⟨k, l, hk, rfl, rfl, hl1, hl2, hall, hlast, hz0⟩ := hrel
    have HA := Lib.hid hall; clear hall
    have HL := Lib.hid hlast; clear hlast
    have HZ := Lib.hid hz0; clear hz0
    by_cases hlt : k < n
    · obtain ⟨ad, x, rfl, hb, hx, hc, hf⟩ := h.at_ hlt
      have HX := Lib.hid hx; clear hx
      have HLE := Lib.hid (show ¬ l < x → ¬ Rise a r from fun hxl hR => by
        have h1 := hR k x HX.out
        by_cases hk0 : k = 0
        · have := HZ.out hk0; omega
        · obtain ⟨z, hz⟩ := getElem_of (l := a) (k := k - 1) (by have := H1.out; omega)
          have := HL.out z (by omega) hz
          have := h1.2.2 z (by omega) hz
          omega)
      have HGE := Lib.hid (show ¬ x < r → ¬ Rise a r from fun hxl hR => hxl (hR k x HX.out).2.1)
      by_cases g1 : x ≤ l
      · have HN := Lib.hid (HLE.out (by omega)); clear HLE HGE
        go_wp2
        go_ret
        exact ⟨asks_no HN.out, rfl⟩
      · by_cases g2 : (r : Int) ≤ x
        · have HN := Lib.hid (HGE.out (by omega)); clear HLE HGE
          go_wp2
          go_ret
          exact ⟨asks_no HN.out, rfl⟩
        · clear HLE HGE
          go_wp2
          go_round
          case rel => exact ⟨k + 1, x, by omega, by go_num, rfl, by omega, by omega, fun j hj => by
            rcases Nat.lt_or_ge j k with h' | h'
            · exact HA.out j h'
            · obtain rfl : j = k := by omega
              intro y hy
              rw [HX.out] at hy; injection hy with hy; subst hy
              refine ⟨?_, by omega, fun z hz1 hz2 => ?_⟩
              · omega
              · have := HL.out z hz1 hz2; omega, fun z _ hz => by rw [Nat.add_sub_cancel, HX.out] at hz; injection hz with hz; exact hz.symm, fun e => by omega⟩
          case measure => simp [intOf]; omega
    · have HR := Lib.hid (show Rise a r from fun j x hx => HA.out j (by have := (List.getElem?_eq_some_iff.1 hx).1; have := H1.out; omega) x hx)
      go_wp2
      go_ret
      exact ⟨asks_yes HR.out, rfl⟩

def LongAt (s o a : List Int) (k : Nat) : Prop := ∀ x y, a[k]? = some x → s[k]? = some y → o[x.toNat]? = some y
def Long (s o a : List Int) : Prop := a.length = s.length ∧ ∀ k, LongAt s o a k
theorem sp_iff {s o a : List Int} : SpOk s o a ↔ Rise a o.length ∧ Long s o a := by
  constructor
  · intro h
    refine ⟨fun k x hx => ?_, h.1, fun k x y hx hy => (h.2 k x y hx hy).2.2.2⟩
    obtain ⟨y, hy⟩ := getElem_of (l := s) (k := k) (by rw [← h.1]; exact (List.getElem?_eq_some_iff.1 hx).1)
    have := h.2 k x y hx hy
    exact ⟨this.1, this.2.1, this.2.2.1⟩
  · rintro ⟨h, hl, g⟩
    refine ⟨hl, fun k x y hx hy => ?_⟩
    have := h k x hx
    exact ⟨this.1, this.2.1, this.2.2, g k x y hx hy⟩
set_option maxHeartbeats 800000 in
theorem asLong_any {w : World} {As Ao Aa : Option Addr} {ns cs no co na ca : Nat} {s o a : List Int} (hS : Ints w As ns s) (hO : Ints w Ao no o) (hA : Ints w Aa na a) (hr : Rise a o.length) :
    Calls Try.prog 40 #[.slice As ns cs, .slice Ao no co, .slice Aa na ca] w fun e w' => Asks e (Long s o a) ∧ ∃ q, w' = w.drewN q := by
  have hles := hS.le
  have hleo := hO.le
  have hlea := hA.le
  have HLS := Lib.hid hS.len
  have HLO := Lib.hid hO.len
  have HLA := Lib.hid hA.len
  have HR := Lib.hid hr; clear hr
  by_cases hnm : na = ns
  · subst hnm
    go_enter Try.func40, Try.ntmps40
    go_wp2
    go_loopw [16] (fun i wr => ∃ k : Nat, k ≤ na ∧ i = .int .i64 k ∧ (∀ j, j < k → LongAt s o a j) ∧ ∃ q, wr = w.drewN q) (fun i _ => na - (intOf i).toNat)
    case atStart => exact ⟨0, Nat.zero_le _, rfl, fun j hj => by omega, 0, rfl⟩
    case round =>
      obtain ⟨k, hk, rfl, hall, q, rfl⟩ := hrel
      have HALL := Lib.hid hall; clear hall
      by_cases hlt : k < na
      · obtain ⟨ad, x, rfl, hb, hx, hc, hf⟩ := hA.at_ hlt
        obtain ⟨sd, y, rfl, hbs, hy, hcs, hfs⟩ := hS.at_ hlt
        have hxr := HR.out k x hx
        obtain ⟨x, rfl⟩ := Int.eq_ofNat_of_zero_le hxr.1
        have hxo : x < no := by have := HLO.out; omega
        obtain ⟨od, z, rfl, hbo, hz, hco, hfo⟩ := hO.at_ hxo
        have HE := Lib.hid (⟨hx, hy, hz⟩ : _ ∧ _ ∧ _); clear hx hy hz hxr
        by_cases hzy : z = y
        · subst hzy
          go_wp2_with fail
          go_quiet (fail)
          go_wp2
          go_roundw
          case rel => exact ⟨k + 1, by omega, by go_num, fun j hj => by
            rcases Nat.lt_or_ge j k with h' | h'
            · exact HALL.out j h'
            · obtain rfl : j = k := by omega
              intro u v hu hv
              rw [HE.out.1] at hu; rw [HE.out.2.1] at hv; injection hu with hu; injection hv with hv; subst hu; subst hv
              exact HE.out.2.2, _, rfl⟩
          case measure => simp [intOf]; omega
        · have HN := Lib.hid (show ¬ Long s o a from fun hl => by
            have := hl.2 k x y HE.out.1 HE.out.2.1
            rw [show ((x : Nat) : Int).toNat = x from rfl, HE.out.2.2] at this
            injection this with this; exact hzy this)
          have hb : (z != y) = true := by simpa using hzy
          go_wp2_with fail
          go_quiet (fail)
          go_wp2
          go_ret
          exact ⟨asks_no HN.out, _, World.drewN_drewN _ _ _⟩
      · have HL := Lib.hid (show Long s o a from ⟨by have := HLA.out; have := HLS.out; omega, fun j x y hx hy => HALL.out j (by have := (List.getElem?_eq_some_iff.1 hx).1; have := HLA.out; omega) x y hx hy⟩)
        go_wp2
        go_ret
        exact ⟨asks_yes HL.out, _, rfl⟩
  · have HN := Lib.hid (show ¬ Long s o a from fun hl => by have := hl.1; have := HLA.out; have := HLS.out; omega)
    have hb : ((na : Int) != (ns : Int)) = true := by simp; omega
    go_enter Try.func40, Try.ntmps40
    go_wp2
    go_ret
    exact ⟨asks_no HN.out, 0, rfl⟩

set_option maxHeartbeats 1600000 in
theorem axWithin_any {w : World} {Af Az As : Option Addr} {nf cf nz cz ns cs : Nat} {s f z : List Int} (hF : Ints w Af nf f) (hZ : Ints w Az nz z) (hS : Ints w As ns s) (hd : ∀ x ∈ s, 0 ≤ x ∧ x ≤ 32) :
    Calls Try.prog 36 #[.slice Af nf cf, .slice Az nz cz, .slice As ns cs] w fun e w' => e = .returned (.bool (cutOk s f z)) ∧ ∃ q, w' = w.drewN q := by
  have hles := hS.le
  have hlef := hF.le
  have hlez := hZ.le
  have HLS := Lib.hid hS.len
  have HLF := Lib.hid hF.len
  have HLZ := Lib.hid hZ.len
  have HD := Lib.hid hd; clear hd
  by_cases hlen : nf = ns ∧ nz = ns
  · obtain ⟨rfl, rfl⟩ := hlen
    go_enter Try.func36, Try.ntmps36
    go_wp2
    go_loopw [23] (fun i wr => ∃ k : Nat, k ≤ nz ∧ i = .int .i64 k ∧ (∀ (j : Nat) (x b y : Int), j < k → s[j]? = some x → f[j]? = some b → z[j]? = some y → 0 ≤ b ∧ 0 ≤ y ∧ b ≤ x ∧ y ≤ x - b) ∧ ∃ q, wr = w.drewN q) (fun i _ => nz - (intOf i).toNat)
    case atStart => exact ⟨0, Nat.zero_le _, rfl, fun j x b y hj => by omega, 0, rfl⟩
    case round =>
      obtain ⟨k, hk, rfl, hall, q, rfl⟩ := hrel
      have HALL := Lib.hid hall; clear hall
      by_cases hlt : k < nz
      · obtain ⟨sd, x, rfl, hbs, hx, hcs, hfs⟩ := hS.at_ hlt
        obtain ⟨fd, b, rfl, hbf, hb, hcf, hff⟩ := hF.at_ hlt
        obtain ⟨zd, y, rfl, hbz, hy, hcz, hfz⟩ := hZ.at_ hlt
        have hxd := HD.out x (List.mem_of_getElem? hx)
        obtain ⟨hx0, hx1⟩ := hxd
        obtain ⟨hff1, hff2⟩ := hff
        obtain ⟨hfz1, hfz2⟩ := hfz
        have HE := Lib.hid (⟨hx, hb, hy⟩ : _ ∧ _ ∧ _); clear hx hb hy hfs
        have HBAD := Lib.hid (show ¬ (0 ≤ b ∧ 0 ≤ y ∧ b ≤ x ∧ y ≤ x - b) → cutOk s f z = false from fun hbad => by
          cases hc : cutOk s f z with
          | false => rfl
          | true => exact absurd (cutOk_at hc HE.out.1 HE.out.2.1 HE.out.2.2) hbad)
        by_cases g1 : b < 0
        · have d1 : decide (b < 0) = true := by simpa using g1
          have HX := Lib.hid (HBAD.out (by omega)); clear HBAD
          go_wp2_with fail
          go_quiet (fail)
          go_wp2
          go_ret
          exact ⟨ret_bool HX.out.symm, _, World.drewN_drewN _ _ _⟩
        have d1 : decide (b < 0) = false := by simpa using g1
        by_cases g2 : y < 0
        · have d2 : decide (y < 0) = true := by simpa using g2
          have HX := Lib.hid (HBAD.out (by omega)); clear HBAD
          go_wp2_with fail
          go_quiet (fail)
          go_wp2
          go_ret
          exact ⟨ret_bool HX.out.symm, _, World.drewN_drewN _ _ _⟩
        have d2 : decide (y < 0) = false := by simpa using g2
        have hw : IntKind.i64.wrap (x - b) = x - b := IntWalk.i64_in _ ⟨by omega, by omega⟩
        by_cases g3 : x - b < y
        · have d3 : decide (x - b < y) = true := by simpa using g3
          have HX := Lib.hid (HBAD.out (by omega)); clear HBAD
          go_wp2_with fail
          go_quiet (fail)
          go_wp2
          go_ret
          exact ⟨ret_bool HX.out.symm, _, World.drewN_drewN _ _ _⟩
        have d3 : decide (x - b < y) = false := by simpa using g3
        clear HBAD
        go_wp2_with fail
        go_quiet (fail)
        go_wp2
        go_roundw
        case rel => exact ⟨k + 1, by omega, by go_num, fun j u v t hj hu hv ht => by
          rcases Nat.lt_or_ge j k with h' | h'
          · exact HALL.out j u v t h' hu hv ht
          · obtain rfl : j = k := by omega
            rw [HE.out.1] at hu; rw [HE.out.2.1] at hv; rw [HE.out.2.2] at ht
            injection hu with hu; injection hv with hv; injection ht with ht
            omega, _, rfl⟩
        case measure => simp [intOf]; omega
      · have HX := Lib.hid (show cutOk s f z = true from cutOk_all (by have := HLS.out; have := HLF.out; omega) (by have := HLS.out; have := HLZ.out; omega) fun j x b y hx hb hy => HALL.out j x b y (by have := (List.getElem?_eq_some_iff.1 hx).1; have := HLS.out; omega) hx hb hy)
        go_wp2
        go_ret
        exact ⟨ret_bool HX.out.symm, _, rfl⟩
  · have HX := Lib.hid (show cutOk s f z = false from by
      cases hc : cutOk s f z with
      | false => rfl
      | true => exact absurd (cutOk_len hc) (by have := HLS.out; have := HLF.out; have := HLZ.out; omega))
    have hg : ((nf : Int) != (ns : Int)) = true ∨ (((nf : Int) != (ns : Int)) = false ∧ ((nz : Int) != (ns : Int)) = true) := by simp; omega
    clear hlen
    rcases hg with hg | ⟨hg, hg2⟩
    all_goals (
      go_enter Try.func36, Try.ntmps36
      go_wp2
      go_ret
      exact ⟨ret_bool HX.out.symm, 0, rfl⟩)

def Small32 (r : Nat) (l : List Int) : Prop := l.length = r ∧ Near l
theorem pad_iff {s lo hi : List Int} : PadOk s lo hi ↔ Small32 s.length lo ∧ Small32 s.length hi := by
  constructor
  · intro h
    refine ⟨⟨h.1, fun x hx => ?_⟩, h.2.1, fun y hy => ?_⟩
    · obtain ⟨k, hk⟩ := List.getElem?_of_mem hx
      obtain ⟨y, hy⟩ := getElem_of (l := hi) (k := k) (by have := (List.getElem?_eq_some_iff.1 hk).1; have := h.1; have := h.2.1; omega)
      have := h.2.2 k x y hk hy; omega
    · obtain ⟨k, hk⟩ := List.getElem?_of_mem hy
      obtain ⟨x, hx⟩ := getElem_of (l := lo) (k := k) (by have := (List.getElem?_eq_some_iff.1 hk).1; have := h.1; have := h.2.1; omega)
      have := h.2.2 k x y hx hk; omega
  · rintro ⟨⟨h1, h2⟩, h3, h4⟩
    refine ⟨h1, h3, fun k x y hx hy => ?_⟩
    have := h2 x (List.mem_of_getElem? hx)
    have := h4 y (List.mem_of_getElem? hy)
    omega
set_option maxHeartbeats 800000 in
theorem lengths_any {w : World} {A : Option Addr} {n c : Nat} {l : List Int} (r : Nat) (h : Ints w A n l) (hr : r ≤ 4) :
    Calls Try.prog 33 #[.slice A n c, .int .i64 r] w fun e w' => Asks e (Small32 r l) ∧ w = w' := by
  have hle := h.le
  have H1 := Lib.hid h.len
  by_cases hnr : n = r
  · subst hnr
    go_enter Try.func33, Try.ntmps33
    go_wp2
    go_loop [13] (fun i => ∃ k : Nat, k ≤ n ∧ i = .int .i64 k ∧ (∀ (j : Nat) (x : Int), j < k → l[j]? = some x → 0 ≤ x ∧ x ≤ 32)) (fun i => n - (intOf i).toNat)
    case atStart => exact ⟨0, Nat.zero_le _, rfl, fun j x hj => by omega⟩
    case round =>
      obtain ⟨k, hk, rfl, hall⟩ := hrel
      have HA := Lib.hid hall; clear hall
      by_cases hlt : k < n
      · obtain ⟨ad, x, rfl, hb, hx, hc, hf⟩ := h.at_ hlt
        have HX := Lib.hid hx; clear hx
        have HBAD := Lib.hid (show ¬ (0 ≤ x ∧ x ≤ 32) → ¬ Small32 n l from fun hbad hs => hbad (hs.2 x (List.mem_of_getElem? HX.out)))
        by_cases g1 : x < 0
        · have HN := Lib.hid (HBAD.out (by omega)); clear HBAD
          go_wp2
          go_ret
          exact ⟨asks_no HN.out, rfl⟩
        · by_cases g2 : 32 < x
          · have HN := Lib.hid (HBAD.out (by omega)); clear HBAD
            go_wp2
            go_ret
            exact ⟨asks_no HN.out, rfl⟩
          · clear HBAD
            go_wp2
            go_round
            case rel => exact ⟨k + 1, by omega, by go_num, fun j u hj hu => by
              rcases Nat.lt_or_ge j k with h' | h'
              · exact HA.out j u h' hu
              · obtain rfl : j = k := by omega
                rw [HX.out] at hu; injection hu with hu; omega⟩
            case measure => simp [intOf]; omega
      · have HR := Lib.hid (show Small32 n l from ⟨H1.out, fun x hx => by
          obtain ⟨j, hj⟩ := List.getElem?_of_mem hx
          exact HA.out j x (by have := (List.getElem?_eq_some_iff.1 hj).1; have := H1.out; omega) hj⟩)
        go_wp2
        go_ret
        exact ⟨asks_yes HR.out, rfl⟩
  · have HN := Lib.hid (show ¬ Small32 r l from fun hs => by have := hs.1; have := H1.out; omega)
    have hb : ((n : Int) != (r : Int)) = true := by simp; omega
    go_enter Try.func33, Try.ntmps33
    go_wp2
    go_ret
    exact ⟨asks_no HN.out, rfl⟩

/-- As many ways, all but one as long. -/
def ButAt (ax : Int) (a b : List Int) (k : Nat) : Prop := ∀ x y, (k : Int) ≠ ax → a[k]? = some x → b[k]? = some y → x = y
def But (ax : Int) (a b : List Int) : Prop := a.length = b.length ∧ ∀ k, ButAt ax a b k
set_option maxHeartbeats 800000 in
theorem sameBut_any {w : World} {A B : Option Addr} {n c m d : Nat} {a b : List Int} (ax : Int) (hA : Ints w A n a) (hB : Ints w B m b) :
    Calls Try.prog 37 #[.int .i64 ax, .slice A n c, .slice B m d] w fun e w' => Asks e (But ax a b) ∧ w = w' := by
  have hle := hA.le
  have hlb := hB.le
  have HLA := Lib.hid hA.len
  have HLB := Lib.hid hB.len
  by_cases hnm : n = m
  · subst hnm
    go_enter Try.func37, Try.ntmps37
    go_wp2
    go_loop [16] (fun i => ∃ k : Nat, k ≤ n ∧ i = .int .i64 k ∧ (∀ j, j < k → ButAt ax a b j)) (fun i => n - (intOf i).toNat)
    case atStart => exact ⟨0, Nat.zero_le _, rfl, fun j hj => by omega⟩
    case round =>
      obtain ⟨k, hk, rfl, hall⟩ := hrel
      have HALL := Lib.hid hall; clear hall
      by_cases hlt : k < n
      · obtain ⟨ad, x, rfl, hba, hx, hca, hfa⟩ := hA.at_ hlt
        obtain ⟨bd, y, rfl, hbb, hy, hcb, hfb⟩ := hB.at_ hlt
        have HE := Lib.hid (⟨hx, hy⟩ : _ ∧ _); clear hx hy
        have HNEXT := Lib.hid (show ((k : Int) ≠ ax → x = y) → ∀ j, j < k + 1 → ButAt ax a b j from fun hg j hj => by
          rcases Nat.lt_or_ge j k with h' | h'
          · exact HALL.out j h'
          · obtain rfl : j = k := by omega
            intro u v hne hu hv
            rw [HE.out.1] at hu; rw [HE.out.2] at hv; injection hu with hu; injection hv with hv
            rw [← hu, ← hv]; exact hg hne)
        by_cases g1 : (k : Int) = ax
        · have d1 : ((k : Int) != ax) = false := by simp [g1]
          have HG := Lib.hid (HNEXT.out fun hne => absurd g1 hne); clear HNEXT g1
          go_wp2
          go_round
          case rel => exact ⟨k + 1, by omega, by go_num, HG.out⟩
          case measure => simp [intOf]; omega
        · have d1 : ((k : Int) != ax) = true := by simpa using g1
          by_cases g2 : x = y
          · have d2 : (x != y) = false := by simp [g2]
            have HG := Lib.hid (HNEXT.out fun _ => g2); clear HNEXT g1 g2
            go_wp2
            go_round
            case rel => exact ⟨k + 1, by omega, by go_num, HG.out⟩
            case measure => simp [intOf]; omega
          · have d2 : (x != y) = true := by simpa using g2
            have HN := Lib.hid (show ¬ But ax a b from fun hb => g2 (hb.2 k x y g1 HE.out.1 HE.out.2)); clear HNEXT g1 g2
            go_wp2
            go_ret
            exact ⟨asks_no HN.out, rfl⟩
      · have HR := Lib.hid (show But ax a b from ⟨by have := HLA.out; have := HLB.out; omega, fun j x y hne hx hy => HALL.out j (by have := (List.getElem?_eq_some_iff.1 hx).1; have := HLA.out; omega) x y hne hx hy⟩)
        go_wp2
        go_ret
        exact ⟨asks_yes HR.out, rfl⟩
  · have HN := Lib.hid (show ¬ But ax a b from fun hb => by have := hb.1; have := HLA.out; have := HLB.out; omega)
    have hb : ((n : Int) != (m : Int)) = true := by simp; omega
    go_enter Try.func37, Try.ntmps37
    go_wp2
    go_ret
    exact ⟨asks_no HN.out, rfl⟩
end Go.Proofs.Ythgpiimagbcmbaa
