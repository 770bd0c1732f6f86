/- Mathematics of the laws DotSums, DotRows. No Go in it. -/
import Derived.Test.YtihjobpdphljiaaDt
import Derived.Test.YtihjobpdphljiaaFd
namespace Go.Proofs.Ytihjobpdphljiaa
open Go.RowKit

theorem wrap0 : wrap64 0 = 0 := by unfold wrap64; omega
theorem cell_lt {a b x y : Nat} (ha : a < x) (hb : b < y) : a * y + b < x * y := by
  have : (a + 1) * y ≤ x * y := Nat.mul_le_mul_right y ha
  rw [Nat.succ_mul] at this; omega
theorem dotSum_congr {d k d' k' : List Int} {A B M i A' B' M' i' : Nat} : ∀ {J : Nat}, (∀ j, j < J → dotT d k A B M i j = dotT d' k' A' B' M' i' j) → dotSum d k A B M i J = dotSum d' k' A' B' M' i' J
  | 0, _ => rfl
  | J + 1, h => by rw [dotSum, dotSum, dotSum_congr (J := J) fun j hj => h j (by omega), h J (by omega)]
theorem getD_add {k c : List Int} (h : c.length = k.length) (q : Nat) : (List.zipWith (stepF 6) k c).getD q 0 = wrap64 (k.getD q 0 + c.getD q 0) := by
  simp only [List.getD_eq_getElem?_getD]
  rcases Nat.lt_or_ge q k.length with hq | hq
  · rw [zip_at (f := stepF 6) (List.getElem?_eq_getElem hq) (List.getElem?_eq_getElem (show q < c.length by omega)), List.getElem?_eq_getElem hq, List.getElem?_eq_getElem (show q < c.length by omega)]
    rfl
  · rw [List.getElem?_eq_none (by simp; omega), List.getElem?_eq_none hq, List.getElem?_eq_none (by omega)]
    exact wrap0.symm
theorem dotSum_add {d k c : List Int} (h : c.length = k.length) (A B M i : Nat) : ∀ J, dotSum d (List.zipWith (stepF 6) k c) A B M i J = wrap64 (dotSum d k A B M i J + dotSum d c A B M i J)
  | 0 => by rw [dotSum, dotSum, dotSum]; exact wrap0.symm
  | J + 1 => by
    rw [dotSum, dotSum, dotSum, dotSum_add h A B M i J, dotT, dotT, dotT, getD_add h]
    generalize dotSum d k A B M i J = X
    generalize dotSum d c A B M i J = Y
    generalize d.getD _ 0 = x
    generalize k.getD _ 0 = y
    generalize c.getD _ 0 = z
    rw [wrap_mul_r, Int.mul_add]
    generalize x * y = p
    generalize x * z = q
    unfold wrap64; omega
/-- A product by a sum. -/
theorem dot_add {s t d k c : List Int} {n : Nat} (h : c.length = k.length) : dotD s d t (List.zipWith (stepF 6) k c) n = List.zipWith (stepF 6) (dotD s d t k n) (dotD s d t c n) := by
  apply List.ext_getElem?
  intro j
  rcases Nat.lt_or_ge j (Sh.size (dotS s t n)).toNat with hj | hj
  · have g1 : (dotD s d t k n)[j]? = some (dotV s d t k n j (dotM t n)) := gen_at hj
    have g2 : (dotD s d t c n)[j]? = some (dotV s d t c n j (dotM t n)) := gen_at hj
    rw [zip_at (f := stepF 6) g1 g2, dotD, gen_at hj, dotV, dotSum_add h]
    rfl
  · rw [List.getElem?_eq_none (by rw [dotD_length]; exact hj), List.getElem?_eq_none (by simp [dotD_length]; omega)]

/-! Tables. -/
theorem rightN2 {x y : Nat} (hx : x ≤ 4) (hy : y ≤ 4) : Sh.right [(x : Int), (y : Int)] = true := by
  have : x = 0 ∨ x = 1 ∨ x = 2 ∨ x = 3 ∨ x = 4 := by omega
  have : y = 0 ∨ y = 1 ∨ y = 2 ∨ y = 3 ∨ y = 4 := by omega
  rcases ‹x = 0 ∨ _› with rfl | rfl | rfl | rfl | rfl <;> rcases ‹y = 0 ∨ _› with rfl | rfl | rfl | rfl | rfl <;> rfl
theorem sizeN2 {x y : Nat} (hx : x ≤ 4) (hy : y ≤ 4) : Sh.size [(x : Int), (y : Int)] = ((x * y : Nat) : Int) := by
  rw [Sh.size_of (rightN2 hx hy)]; simp [Sh.pr]
theorem dotS_two (x m y : Int) : dotS [x, m] [m, y] 0 = [x, y] := rfl
theorem dotOk_two {x m y : Nat} (hx : x ≤ 4) (hm : m ≤ 4) (hy : y ≤ 4) : DotOk [(x : Int), (m : Int)] [(m : Int), (y : Int)] 0 := ⟨by simp, by simp, rightN2 hx hm, rightN2 hm hy, rfl, rfl, rightN2 hx hy⟩
theorem dotA_two (x m : Nat) : dotA [(x : Int), (m : Int)] 0 = x := by simp [dotA, Sh.pd]
theorem dotB_two (m y : Nat) : dotB [(m : Int), (y : Int)] 0 = y := by simp [dotB, Sh.pd]
theorem dotM_two (m y : Nat) : dotM [(m : Int), (y : Int)] 0 = m := by simp [dotM]
theorem dotD_two {x m y : Nat} (hx : x ≤ 4) (hy : y ≤ 4) (d k : List Int) : dotD [(x : Int), (m : Int)] d [(m : Int), (y : Int)] k 0 = gen (x * y) fun i => dotSum d k x y m i m := by
  rw [dotD, dotS_two, sizeN2 hx hy, Int.toNat_natCast]
  simp only [dotV, dotA_two, dotB_two, dotM_two]
theorem lt_of_mul {i x y : Nat} (h : i < x * y) : 0 < y ∧ i / y < x ∧ i % y < y := by
  have hy : 0 < y := by
    rcases Nat.eq_zero_or_pos y with rfl | h'
    · simp at h
    · exact h'
  exact ⟨hy, Nat.div_lt_of_lt_mul (by rwa [Nat.mul_comm]), Nat.mod_lt _ hy⟩
/-- The unit, T of its rows set. -/
def unitD (m T : Nat) : List Int := (List.range T).foldl (fun o t => o.set (t * m + t) 1) (List.replicate (m * m) 0)
theorem unitD_zero (m : Nat) : unitD m 0 = List.replicate (m * m) 0 := rfl
theorem unitD_step (m T : Nat) : (unitD m T).set (T * m + T) 1 = unitD m (T + 1) := by
  rw [unitD, unitD, List.range_succ, List.foldl_append]; rfl
theorem unitD_length (m : Nat) : ∀ T, (unitD m T).length = m * m
  | 0 => by simp [unitD_zero]
  | T + 1 => by rw [← unitD_step, List.length_set, unitD_length m T]
theorem unitD_at {m q : Nat} (hq : q < m * m) : ∀ T, T ≤ m → (unitD m T)[q]? = some (if q / m = q % m ∧ q / m < T then 1 else 0)
  | 0, _ => by rw [unitD_zero, List.getElem?_replicate, if_pos hq, if_neg (by omega)]
  | T + 1, hT => by
    obtain ⟨hm, h1, h2⟩ := lt_of_mul hq
    have e : m * (q / m) + q % m = q := Nat.div_add_mod q m
    rw [← unitD_step, List.getElem?_set, unitD_length, unitD_at hq T (by omega)]
    by_cases hc : T * m + T = q
    · have ha : q / m = T := by rw [← hc, Nat.mul_comm, Nat.mul_add_div hm, Nat.div_eq_of_lt (by omega)]; rfl
      have hb : q % m = T := by rw [← hc, Nat.mul_comm, Nat.mul_add_mod, Nat.mod_eq_of_lt (by omega)]
      rw [if_pos hc, if_pos (by omega), if_pos ⟨by omega, by omega⟩]
    · rw [if_neg hc]
      congr 1
      by_cases hd : q / m = q % m ∧ q / m < T
      · rw [if_pos hd, if_pos ⟨hd.1, by omega⟩]
      · rw [if_neg hd, if_neg]
        rintro ⟨h3, h4⟩
        have h5 : q / m = T := by omega
        rw [h5, Nat.mul_comm] at e
        omega
theorem dotSum_unit {d : List Int} {x m i : Nat} (hi : i < x * m) (hd : ∀ z ∈ d, Fits z) : ∀ J, J ≤ m → dotSum d (unitD m m) x m m i J = if i % m < J then d.getD i 0 else 0
  | 0, _ => by rw [if_neg (by omega)]; rfl
  | J + 1, hJ => by
    obtain ⟨hm, h1, h2⟩ := lt_of_mul hi
    have e : m * (i / m) + i % m = i := Nat.div_add_mod i m
    have hq : (0 * m + J) * m + i % m < m * m := by
      have : (J + 1) * m ≤ m * m := Nat.mul_le_mul_right m (by omega)
      rw [Nat.zero_mul, Nat.zero_add]; rw [Nat.succ_mul] at this; omega
    have hd1 : ((0 * m + J) * m + i % m) / m = J := by rw [Nat.zero_mul, Nat.zero_add, Nat.mul_comm, Nat.mul_add_div hm, Nat.div_eq_of_lt h2]; rfl
    have hd2 : ((0 * m + J) * m + i % m) % m = i % m := by rw [Nat.zero_mul, Nat.zero_add, Nat.mul_comm, Nat.mul_add_mod, Nat.mod_eq_of_lt h2]
    have hx : i / (x * m) = 0 := Nat.div_eq_of_lt hi
    rw [dotSum, dotSum_unit hi hd J (by omega), dotT, hx, List.getD_eq_getElem?_getD (l := unitD m m), unitD_at hq m (Nat.le_refl _), hd1, hd2]
    have hf : Fits (d.getD i 0) := getD_fits hd i
    by_cases hc : J = i % m
    · rw [if_neg (by omega), if_pos ⟨hc, by omega⟩, if_pos (by omega), show i / m * m + J = i by rw [Nat.mul_comm]; omega]
      simp only [Option.getD_some, Int.mul_one, Int.zero_add]
      rw [wrap_fits hf, wrap_fits hf]
    · rw [if_neg (show ¬ (J = i % m ∧ J < m) from fun h => hc h.1)]
      simp only [Option.getD_some, Int.mul_zero]
      rw [wrap0, Int.add_zero]
      by_cases h3 : i % m < J
      · rw [if_pos h3, if_pos (by omega), wrap_fits hf]
      · rw [if_neg h3, if_neg (by omega), wrap0]
/-- A product by the unit. -/
theorem dot_unit {x m : Nat} {d : List Int} (hx : x ≤ 4) (hm : m ≤ 4) (hl : d.length = x * m) (hd : ∀ z ∈ d, Fits z) : dotD [(x : Int), (m : Int)] d [(m : Int), (m : Int)] (unitD m m) 0 = d := by
  rw [dotD_two hx hm]
  refine gen_eq hl fun i hi => ?_
  obtain ⟨hm0, h1, h2⟩ := lt_of_mul hi
  rw [dotSum_unit hi hd m (Nat.le_refl _), if_pos h2, List.getD_eq_getElem?_getD, List.getElem?_eq_getElem (show i < d.length by omega)]
  rfl
/-! The other way round. -/
theorem tuOk_two (x y : Int) : TuOk [x, y] [1, 0] := by
  refine ⟨rfl, fun i z hz => ?_⟩
  match i, hz with
  | 0, hz => simp at hz; subst hz; simp
  | 1, hz => simp at hz; subst hz; simp
  | i + 2, hz => simp at hz
theorem turnS_two (x y : Int) : turnS [x, y] [1, 0] = [y, x] := rfl
theorem turnP_two (p q : Int) : turnP 2 [1, 0] [p, q] = [q, p] := rfl
theorem turnD_two {x y : Nat} (hx : x ≤ 4) (hy : y ≤ 4) (d : List Int) : turnD [(x : Int), (y : Int)] d [1, 0] = gen (x * y) fun q => d.getD (q % x * y + q / x) 0 := by
  rw [turnD, turnS_two, sizeN2 hy hx, Int.toNat_natCast, Nat.mul_comm y x]
  refine List.map_congr_left fun q hq => ?_
  have hq := List.mem_range.1 hq
  rw [Nat.mul_comm] at hq
  obtain ⟨h0, h1, h2⟩ := lt_of_mul hq
  have e : Sh.placeOf [(y : Int), (x : Int)] q = [((q / x : Nat) : Int), ((q % x : Nat) : Int)] := by
    rw [(placeOf_of (s := [(y : Int), (x : Int)]) (by rw [sizeN2 hy hx]; omega)).1]
    simp only [Sh.place, Sh.pd, Int.mul_one, Int.ediv_one]
    congr 1
    rw [← Int.natCast_ediv, ← Int.natCast_emod, Nat.mod_eq_of_lt h1]
  show num _ d (turnP 2 [1, 0] _) = _
  rw [e, turnP_two, num]
  have hw : Sh.within [(x : Int), (y : Int)] [((q % x : Nat) : Int), ((q / x : Nat) : Int)] = true := by
    rw [Sh.within_iff]
    intro z hz
    change z ∈ [((x : Int), ((q % x : Nat) : Int)), ((y : Int), ((q / x : Nat) : Int))] at hz
    rw [List.mem_cons, List.mem_singleton] at hz
    rcases hz with rfl | rfl
    · exact ⟨Int.natCast_nonneg _, Int.ofNat_lt.2 h2⟩
    · exact ⟨Int.natCast_nonneg _, Int.ofNat_lt.2 h1⟩
  rw [Sh.index_of (rightN2 hx hy) (by rfl) hw, Sh.hor_lin (by rfl)]
  congr 1
  simp only [Sh.lin, Sh.pd, Int.mul_one, Int.add_zero]
  rw [← Int.natCast_mul, ← Int.natCast_add, Int.toNat_natCast]
theorem dot_turn {x m y : Nat} {d k : List Int} (hx : x ≤ 4) (hm : m ≤ 4) (hy : y ≤ 4) :
    dotD [(y : Int), (m : Int)] (turnD [(m : Int), (y : Int)] k [1, 0]) [(m : Int), (x : Int)] (turnD [(x : Int), (m : Int)] d [1, 0]) 0 = turnD [(x : Int), (y : Int)] (dotD [(x : Int), (m : Int)] d [(m : Int), (y : Int)] k 0) [1, 0] := by
  rw [dotD_two hy hx, turnD_two hx hy, dotD_two hx hy, turnD_two hm hy, turnD_two hx hm, Nat.mul_comm y x]
  refine List.map_congr_left fun q hq => ?_
  have hq := List.mem_range.1 hq
  have hq' : q < y * x := by rwa [Nat.mul_comm]
  obtain ⟨h0, h1, h2⟩ := lt_of_mul hq'
  have hr : q % x * y + q / x < x * y := cell_lt h2 h1
  rw [List.getD_eq_getElem?_getD, gen_at hr]
  simp only [Option.getD_some]
  have hy0 : 0 < y := Nat.lt_of_le_of_lt (Nat.zero_le _) h1
  have e1 : (q % x * y + q / x) / y = q % x := by rw [Nat.mul_comm, Nat.mul_add_div hy0, Nat.div_eq_of_lt h1]; rfl
  have e2 : (q % x * y + q / x) % y = q / x := by rw [Nat.mul_comm, Nat.mul_add_mod, Nat.mod_eq_of_lt h1]
  have e3 : (q % x * y + q / x) / (x * y) = 0 := Nat.div_eq_of_lt hr
  have e4 : q / (y * x) = 0 := Nat.div_eq_of_lt hq'
  refine dotSum_congr fun j hj => ?_
  rw [dotT, dotT, e1, e2, e3, e4, Int.mul_comm]
  have a1 : q / x * m + j < m * y := by rw [Nat.mul_comm m y]; exact cell_lt h1 hj
  have a2 : (0 * m + j) * x + q % x < x * m := by rw [Nat.mul_comm x m, Nat.zero_mul, Nat.zero_add]; exact cell_lt hj h2
  have hm0 : 0 < m := Nat.lt_of_le_of_lt (Nat.zero_le _) hj
  rw [List.getD_eq_getElem?_getD (l := gen (m * y) _), gen_at a1, List.getD_eq_getElem?_getD (l := gen (x * m) _), gen_at a2]
  simp only [Option.getD_some]
  have b1 : (q / x * m + j) / m = q / x := by rw [Nat.mul_comm, Nat.mul_add_div hm0, Nat.div_eq_of_lt hj]; rfl
  have b2 : (q / x * m + j) % m = j := by rw [Nat.mul_comm, Nat.mul_add_mod, Nat.mod_eq_of_lt hj]
  have b3 : ((0 * m + j) * x + q % x) / x = j := by rw [Nat.zero_mul, Nat.zero_add, Nat.mul_comm, Nat.mul_add_div h0, Nat.div_eq_of_lt h2]; rfl
  have b4 : ((0 * m + j) * x + q % x) % x = q % x := by rw [Nat.zero_mul, Nat.zero_add, Nat.mul_comm, Nat.mul_add_mod, Nat.mod_eq_of_lt h2]
  rw [b1, b2, b3, b4, Nat.zero_mul, Nat.zero_add]
/-! Rows that share an axis. -/
theorem rightN3 {x y z : Nat} (hx : x ≤ 4) (hy : y ≤ 4) (hz : z ≤ 4) : Sh.right [(x : Int), (y : Int), (z : Int)] = true := by
  have h1 : x * y ≤ 4 * 4 := Nat.mul_le_mul hx hy
  have h2 : x * y * z ≤ 16 * 4 := Nat.mul_le_mul h1 hz
  refine Sh.right_iff.2 ⟨by simp, fun w hw => by simp at hw; omega, ?_⟩
  simp only [Sh.pr, List.foldl_cons, List.foldl_nil, Int.one_mul]
  rw [← Int.natCast_mul, ← Int.natCast_mul]; omega
theorem sizeN3 {x y z : Nat} (hx : x ≤ 4) (hy : y ≤ 4) (hz : z ≤ 4) : Sh.size [(x : Int), (y : Int), (z : Int)] = ((x * y * z : Nat) : Int) := by
  rw [Sh.size_of (rightN3 hx hy hz)]; simp [Sh.pr]
theorem dotOk_three {x m : Nat} (hx : x ≤ 4) (hm : m ≤ 4) : DotOk [(x : Int), 2, (m : Int)] [(x : Int), (m : Int), 3] 1 :=
  ⟨by simp, by simp, rightN3 (y := 2) hx (by omega) hm, rightN3 (z := 3) hx hm (by omega), rfl, rfl, rightN3 (y := 2) (z := 3) hx (by omega) (by omega)⟩
theorem dotS_three (x m : Int) : dotS [x, 2, m] [x, m, 3] 1 = [x, 2, 3] := rfl
theorem dotD_three {x m : Nat} (hx : x ≤ 4) (_hm : m ≤ 4) (d k : List Int) : dotD [(x : Int), 2, (m : Int)] d [(x : Int), (m : Int), 3] k 1 = gen (x * 6) fun i => dotSum d k 2 3 m i m := by
  have es : Sh.size [(x : Int), 2, 3] = ((x * 2 * 3 : Nat) : Int) := sizeN3 (y := 2) (z := 3) hx (by omega) (by omega)
  rw [dotD, dotS_three, es, Int.toNat_natCast, Nat.mul_assoc]
  have e1 : dotA [(x : Int), 2, (m : Int)] 1 = 2 := by simp [dotA, Sh.pd]
  have e2 : dotB [(x : Int), (m : Int), 3] 1 = 3 := by simp [dotB, Sh.pd]
  have e3 : dotM [(x : Int), (m : Int), 3] 1 = m := by simp [dotM]
  simp only [dotV, e1, e2, e3]
theorem getD_cut {d : List Int} {o n q : Nat} (h : q < n) : ((d.drop o).take n).getD q 0 = d.getD (o + q) 0 := by
  rw [List.getD_eq_getElem?_getD, List.getD_eq_getElem?_getD, List.getElem?_take, if_pos h, List.getElem?_drop]
theorem dot_page {x m q : Nat} {d k : List Int} (hx : x ≤ 4) (hm : m ≤ 4) (hq : q < x) :
    ((dotD [(x : Int), 2, (m : Int)] d [(x : Int), (m : Int), 3] k 1).drop (q * 6)).take 6 = dotD [2, (m : Int)] ((d.drop (q * 2 * m)).take (2 * m)) [(m : Int), 3] ((k.drop (q * 3 * m)).take (3 * m)) 0 := by
  rw [dotD_three hx hm, show dotD [2, (m : Int)] _ [(m : Int), 3] _ 0 = _ from dotD_two (x := 2) (y := 3) (by omega) (by omega) _ _]
  apply List.ext_getElem?
  intro r
  rw [List.getElem?_take]
  by_cases hr : r < 6
  · rw [if_pos hr, List.getElem?_drop, gen_at (by omega), gen_at hr]
    congr 1
    have e1 : (q * 6 + r) / 3 = q * 2 + r / 3 := by omega
    have e2 : (q * 6 + r) / (2 * 3) = q := by omega
    have e3 : r / (2 * 3) = 0 := by omega
    have e4 : (q * 6 + r) % 3 = r % 3 := by omega
    refine dotSum_congr fun j hj => ?_
    have b1 : r / 3 * m + j < 2 * m := by
      have : (r / 3 + 1) * m ≤ 2 * m := Nat.mul_le_mul_right m (by omega)
      rw [Nat.succ_mul] at this; omega
    have b2 : (0 * m + j) * 3 + r % 3 < 3 * m := by omega
    rw [dotT, dotT, e1, e2, e3, e4, getD_cut b1, getD_cut b2]
    congr 3
    · rw [Nat.add_mul]; omega
    · rw [Nat.add_mul, Nat.mul_right_comm]; omega
  · rw [if_neg hr, List.getElem?_eq_none (by rw [gen_length]; omega)]
theorem dotOk_row {m : Nat} (hm : m ≤ 4) : DotOk [(m : Int)] [(m : Int), 3] 0 :=
  ⟨by simp, by simp, Sh.right_iff.2 ⟨by simp, fun x hx => by simp at hx; omega, by simp [Sh.pr]; omega⟩, rightN2 (y := 3) hm (by omega), rfl, rfl, rfl⟩
theorem dot_rowOf {m : Nat} {p k : List Int} (_hm : m ≤ 4) : dotD [(m : Int)] (p.take m) [(m : Int), 3] k 0 = (dotD [2, (m : Int)] p [(m : Int), 3] k 0).take 3 := by
  rw [show dotD [2, (m : Int)] p [(m : Int), 3] k 0 = _ from dotD_two (x := 2) (y := 3) (by omega) (by omega) _ _]
  have e0 : dotD [(m : Int)] (p.take m) [(m : Int), 3] k 0 = gen 3 fun i => dotSum (p.take m) k 1 3 m i m := by
    have e1 : dotA [(m : Int)] 0 = 1 := by simp [dotA, Sh.pd]
    have e2 : dotB [(m : Int), 3] 0 = 3 := by simp [dotB, Sh.pd]
    have e3 : dotM [(m : Int), 3] 0 = m := by simp [dotM]
    rw [dotD]
    simp only [dotV, e1, e2, e3]
    rfl
  rw [e0]
  apply List.ext_getElem?
  intro r
  rw [List.getElem?_take]
  by_cases hr : r < 3
  · rw [if_pos hr, gen_at hr, gen_at (by omega)]
    congr 1
    refine dotSum_congr fun j hj => ?_
    have e1 : r / 3 = 0 := by omega
    have e3 : r / (2 * 3) = 0 := by omega
    rw [dotT, dotT, e1, e3, Nat.zero_mul, Nat.zero_add]
    congr 2
    rw [List.getD_eq_getElem?_getD, List.getD_eq_getElem?_getD, List.getElem?_take, if_pos hj]
  · rw [if_neg hr, List.getElem?_eq_none (by rw [gen_length]; omega)]
end Go.Proofs.Ytihjobpdphljiaa
