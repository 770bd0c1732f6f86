/- Mathematics of the law WindowOnes. No Go in it. -/
import Derived.Test.YtiigbkjkmfjhcaaWnB
namespace Go.Proofs.Ytiigbkjkmfjhcaa
open Go.RowKit

theorem cell_lt_ {a b x y : Nat} (ha : a < x) (hb : b < y) : a * y + b < x * y := by
  have : (a + 1) * y ≤ x * y := Nat.mul_le_mul_right y ha
  rw [Nat.succ_mul] at this; omega
theorem lt_of_mul_ {i x y : Nat} (h : i < x * y) : 0 < y ∧ i / y < x ∧ i % y < y := by
  have hy : 0 < y := by
    rcases Nat.eq_zero_or_pos y with rfl | h'
    · simp at h
    · exact h'
  exact ⟨hy, Nat.div_lt_of_lt_mul (by rwa [Nat.mul_comm]), Nat.mod_lt _ hy⟩
theorem winN_one {n : Int} (h : 0 ≤ n) : winN n 1 1 = n := by
  by_cases hc : n < 0 ∨ (1 : Int) < 1 ∨ (1 : Int) < 1 ∨ n < 1
  · rw [winN_no hc]; omega
  · rw [winN_yes hc, Int.ediv_one]; omega
theorem winN_all {n : Int} (h : 1 ≤ n) : winN n n 1 = 1 := by
  rw [winN_yes (by omega), Int.sub_self, Int.ediv_one]; rfl
theorem winAt_one {n B i : Nat} : winAt n n B 1 i 0 = i := by
  rw [winAt, Nat.mul_one, Nat.add_zero, Nat.mul_comm n B, ← Nat.div_div_eq_div_mul]
  have h1 : i / B / n * n + i / B % n = i / B := by rw [Nat.mul_comm]; exact Nat.div_add_mod _ _
  rw [h1, Nat.mul_comm]; exact Nat.div_add_mod _ _
theorem winV_list (how : Int) (d : List Int) (n N B a i : Nat) : ∀ J, winV how d n N B a i J = ((List.range J).map fun j => d.getD (winAt n N B a i j) 0).foldl (putF how) (noneF how)
  | 0 => rfl
  | J + 1 => by rw [winV, winV_list how d n N B a i J, List.range_succ, List.map_append, List.foldl_append]; rfl
/-- Windows of one number are the numbers. -/
theorem win_ones {how : Int} {s d : List Int} {ax : Nat} (hh : howOk how = true) (h : tenRight s d = true) (hx : ax < s.length) (hd : ∀ x ∈ d, Fits x) : winR how s d ax 1 1 = (0, s, d) := by
  obtain ⟨n, hn⟩ := getElem_of hx
  have e : s.getD ax 0 = n := by rw [List.getD_eq_getElem?_getD, hn]; rfl
  have hb := (Sh.right_iff.1 (right_of h)).2.1 n (List.mem_of_getElem? hn)
  have hS : winS s ax 1 1 = s := by rw [winS, e, winN_one hb.1]; exact set_same_ hn
  have hl := len_right h
  rw [winR_ok (by rw [hh]; rfl) h hx, hS]
  congr 2
  rw [winD, hS]
  refine gen_eq (by omega) fun i hi => ?_
  show d[i]? = some (winI how s d ax 1 1 i 1)
  obtain ⟨x, hxi⟩ := getElem_of (l := d) (k := i) (by omega)
  rw [winI, e, winN_one hb.1]
  show d[i]? = some (putF how (noneF how) (d.getD (winAt n.toNat n.toNat (winB s ax) 1 i 0) 0))
  rw [winAt_one, List.getD_eq_getElem?_getD, hxi]
  show some x = some (putF how (noneF how) x)
  rw [putF_none hh (hd x (List.mem_of_getElem? hxi))]

theorem perm_nodup {l l' : List Nat} (h : l.Nodup) (h' : l'.Nodup) (hm : ∀ x, x ∈ l ↔ x ∈ l') : l.Perm l' := by
  rw [List.perm_iff_count]
  intro q
  have h1 : List.count q l ≤ 1 := List.nodup_iff_count.1 h q
  have h2 : List.count q l' ≤ 1 := List.nodup_iff_count.1 h' q
  by_cases hq : q ∈ l
  · have h3 : 0 < List.count q l := List.count_pos_iff.2 hq
    have h4 : 0 < List.count q l' := List.count_pos_iff.2 ((hm q).1 hq)
    omega
  · rw [List.count_eq_zero.2 hq, List.count_eq_zero.2 (fun hq' => hq ((hm q).2 hq'))]
theorem restAt_none {axes : List Int} : ∀ {xs : List Int} {k : Nat}, (∀ j : Nat, k ≤ j → j < k + xs.length → (j : Int) ∉ axes) → restAt axes k xs = xs
  | [], _, _ => rfl
  | x :: xs, k, h => by
    rw [restAt, if_neg (h k (Nat.le_refl k) (by simp)), restAt_none (xs := xs) (k := k + 1) fun j hj hl => h j (by omega) (by rw [List.length_cons]; omega)]
theorem rest_mid (a : List Int) (x : Int) (b : List Int) : rest [(a.length : Int)] (a ++ x :: b) = a ++ b := by
  rw [rest, restAt_append, restAt_none (fun j _ hj => by simp; omega), restAt, Nat.zero_add, if_pos (by simp), restAt_none (fun j hj _ => by simp; omega)]
/-- As wide as all is long: the fold. -/
theorem win_all {how : Int} {s d : List Int} {ax : Nat} {n : Int} (hh : howOk how = true) (h : tenRight s d = true) (hn : s[ax]? = some n) (hn1 : 1 ≤ n) :
    winR how s d ax n 1 = (0, s.set ax 1, winD how s d ax n 1) ∧ foldR how s d [(ax : Int)] = (0, rest [(ax : Int)] s, winD how s d ax n 1) := by
  have hx : ax < s.length := (List.getElem?_eq_some_iff.1 hn).1
  have e : s.getD ax 0 = n := by rw [List.getD_eq_getElem?_getD, hn]; rfl
  have hr := right_of h
  have hri := Sh.right_iff.1 hr
  have hb := hri.2.1 n (List.mem_of_getElem? hn)
  have hS : winS s ax n 1 = s.set ax 1 := by rw [winS, e, winN_all hn1]
  have hl := len_right h
  refine ⟨by rw [winR_ok (by rw [hh, Bool.true_and, winOk_iff]; omega) h hx, hS], ?_⟩
  have es : s = s.take ax ++ n :: s.drop (ax + 1) := by
    have := List.take_append_drop ax s
    rw [List.drop_eq_getElem_cons hx] at this
    have e2 : s[ax] = n := by rw [List.getElem?_eq_getElem hx] at hn; injection hn
    rw [e2] at this; exact this.symm
  have hlen : (s.take ax).length = ax := by simp; omega
  have hB : winB s ax = (Sh.pd (s.drop (ax + 1))).toNat := rfl
  have hS1 : s.set ax 1 = s.take ax ++ 1 :: s.drop (ax + 1) := by
    conv => lhs; rw [es]
    rw [List.set_append_right _ _ (by omega), hlen, Nat.sub_self]; rfl
  obtain ⟨hd, hhd⟩ : ∃ l, s.take ax = l := ⟨_, rfl⟩
  obtain ⟨v, hv⟩ : ∃ l, s.drop (ax + 1) = l := ⟨_, rfl⟩
  rw [hhd, hv] at es hS1
  rw [hhd] at hlen
  rw [hv] at hB
  have hdd : ∀ x ∈ hd, 0 ≤ x ∧ x ≤ 32 := fun x hx => hri.2.1 x (by rw [es]; simp [hx])
  have hvd : ∀ x ∈ v, 0 ≤ x ∧ x ≤ 32 := fun x hx => hri.2.1 x (by rw [es]; simp [hx])
  have hA0 := Sh.pd_nonneg hdd
  have hV0 := Sh.pd_nonneg hvd
  obtain ⟨A, hA⟩ := Int.eq_ofNat_of_zero_le hA0
  obtain ⟨B, hBB⟩ := Int.eq_ofNat_of_zero_le hV0
  obtain ⟨m, rfl⟩ := Int.eq_ofNat_of_zero_le hb.1
  rw [hBB, Int.toNat_natCast] at hB
  have hre : rest [(ax : Int)] s = hd ++ v := by rw [es, ← hlen]; exact rest_mid _ _ _
  have hps : Sh.pd s = ((A * (m * B) : Nat) : Int) := by rw [es, Sh.pd_append, Sh.pd, hA, hBB]; push_cast; rfl
  have hsz : Sh.size s = ((A * (m * B) : Nat) : Int) := by rw [Sh.size_of hr, Sh.pr_pd, hps]
  have hAB : A * B ≤ A * (m * B) := Nat.mul_le_mul_left A (Nat.le_mul_of_pos_left B (by omega))
  have hrr : Sh.right (hd ++ v) = true := Sh.right_iff.2 ⟨by have := hri.1; rw [es] at this; simp at this ⊢; omega, fun x hx => by
    rcases List.mem_append.1 hx with hx | hx
    · exact hdd x hx
    · exact hvd x hx, by
    have := hri.2.2
    rw [Sh.pr_pd, hps] at this
    rw [Sh.pr_pd, Sh.pd_append, hA, hBB, ← Int.natCast_mul]; omega⟩
  have hsr : Sh.size (hd ++ v) = ((A * B : Nat) : Int) := by rw [Sh.size_of hrr, Sh.pr_pd, Sh.pd_append, hA, hBB, ← Int.natCast_mul]
  have hs1 : Sh.size (winS s ax (m : Int) 1) = ((A * B : Nat) : Int) := by
    have h1 : Sh.right (winS s ax (m : Int) 1) = true := winS_right hr hx
    rw [Sh.size_of h1, Sh.pr_pd, hS, hS1, Sh.pd_append, Sh.pd, Int.one_mul, hA, hBB, ← Int.natCast_mul]
  have hrise : Rises [(ax : Int)] s.length := by
    intro k x hxx
    cases k with
    | zero => simp at hxx; subst hxx; exact ⟨by omega, by omega, fun z hz => by omega⟩
    | succ k => simp at hxx
  rw [foldR_ok hh h hrise (by rw [hre]; exact hrr)]
  have hix : ∀ q, q < A * (m * B) → foldIx s [(ax : Int)] q = q / (m * B) * B + q % B := by
    intro q hq
    have hqz : (q : Int) < Sh.size s := by rw [hsz]; exact Int.ofNat_lt.2 hq
    obtain ⟨hp0, hpl, hpw, _⟩ := placeOf_of hqz
    have hfw := fold_within (axes := [(ax : Int)]) (by rw [hre]; exact hrr) hqz
    have hpos := (Sh.size_pos (by omega) hqz).2
    have eP : Sh.placeOf s q = Sh.place hd (q / ((m : Int) * (B : Int))) ++ (((q : Int) / (B : Int)) % (m : Int)) :: Sh.place v q := by
      rw [hp0]
      conv => lhs; rw [es]
      rw [place_append _ _ (fun x hx => (hdd x hx).1) (by rw [Sh.pd, hBB]; exact Int.mul_nonneg (by omega) (by omega)), Sh.pd, hBB]
      show _ ++ ((q : Int) / Sh.pd v % (m : Int)) :: _ = _
      rw [hBB]
    have eR : rest [(ax : Int)] (Sh.placeOf s q) = Sh.place hd (q / ((m : Int) * (B : Int))) ++ Sh.place v q := by
      rw [eP]
      have := rest_mid (Sh.place hd (q / ((m : Int) * (B : Int)))) (((q : Int) / (B : Int)) % (m : Int)) (Sh.place v q)
      rwa [Sh.place_length, hlen] at this
    have h3 := hfw.2.2.1
    rw [hre, eR] at hfw h3
    rw [Sh.index_of hrr hfw.1 hfw.2.1, Sh.hor_lin hfw.1, lin_append _ _ _ _ (Sh.place_length _ _), Sh.lin_place _ hdd, Sh.lin_place _ hvd, hA, hBB] at h3
    have hB0 : 0 < m * B := by
      rcases Nat.eq_zero_or_pos (m * B) with h0 | h0
      · rw [h0, Nat.mul_zero] at hq; omega
      · exact h0
    have hlt : q / (m * B) < A := Nat.div_lt_of_lt_mul (by rwa [Nat.mul_comm])
    have hcast : (q : Int) / ((m : Int) * (B : Int)) = ((q / (m * B) : Nat) : Int) := by push_cast; rfl
    rw [hcast, Int.emod_eq_of_lt (Int.natCast_nonneg _) (Int.ofNat_lt.2 hlt)] at h3
    have : ((foldIx s [(ax : Int)] q : Nat) : Int) = ((q / (m * B) * B + q % B : Nat) : Int) := by rw [h3]; push_cast; rfl
    exact Int.ofNat.inj this
  congr 2
  apply List.ext_getElem?
  intro i
  rcases Nat.lt_or_ge i (A * B) with hi | hi
  · rw [foldD_at (by rw [hre, hsr, Int.toNat_natCast]; exact hi), winD, gen_at (by rw [hs1, Int.toNat_natCast]; exact hi), winI, e, winN_all hn1, hB]
    congr 1
    rw [winV_list]
    show _ = List.foldl (putF how) (noneF how) (List.map (fun j => d.getD (winAt m 1 B 1 i j) 0) (List.range (m : Int).toNat))
    rw [Int.toNat_natCast]
    have hdl : d.length = A * (m * B) := by omega
    obtain ⟨hB0, ha, hc⟩ := lt_of_mul_ hi
    have hperm : (into s [(ax : Int)] d.length i).Perm ((List.range m).map fun j => winAt m 1 B 1 i j) := by
      refine perm_nodup ?_ ?_ fun q => ?_
      · rw [into]; exact List.nodup_range.filter _
      · rw [List.nodup_iff_pairwise_ne, List.pairwise_map]
        refine List.Pairwise.imp_of_mem (R := (· ≠ ·)) (fun {a b} _ _ hab he => hab ?_) (List.nodup_iff_pairwise_ne.1 List.nodup_range)
        simp only [winAt, Nat.mod_one, Nat.zero_mul, Nat.zero_add] at he
        have h1 : (i / (1 * B) * m + a) * B = (i / (1 * B) * m + b) * B := by omega
        have := Nat.eq_of_mul_eq_mul_right hB0 h1
        omega
      · rw [into, List.mem_filter, List.mem_range, List.mem_map, hdl]
        simp only [decide_eq_true_eq, List.mem_range, winAt, Nat.mod_one, Nat.zero_mul, Nat.zero_add, Nat.one_mul]
        constructor
        · rintro ⟨hq, hf⟩
          rw [hix q hq] at hf
          have hm0 : 0 < m := by omega
          have hqB : q % B < B := Nat.mod_lt _ hB0
          have e1 : i / B = q / (m * B) := by rw [← hf, Nat.mul_comm _ B, Nat.mul_add_div hB0, Nat.div_eq_of_lt hqB, Nat.add_zero]
          have e2 : i % B = q % B := by rw [← hf, Nat.mul_comm _ B, Nat.mul_add_mod, Nat.mod_eq_of_lt hqB]
          refine ⟨q / B % m, Nat.mod_lt _ hm0, ?_⟩
          rw [e1, e2, Nat.mul_comm m B, ← Nat.div_div_eq_div_mul, Nat.mul_comm _ m, Nat.div_add_mod, Nat.mul_comm, Nat.div_add_mod]
        · rintro ⟨j, hj, rfl⟩
          have hql : (i / B * m + j) * B + i % B < A * (m * B) := by
            rw [← Nat.mul_assoc]
            exact cell_lt_ (cell_lt_ ha hj) hc
          have e1 : ((i / B * m + j) * B + i % B) / B = i / B * m + j := by rw [Nat.mul_comm, Nat.mul_add_div hB0, Nat.div_eq_of_lt hc, Nat.add_zero]
          have e2 : ((i / B * m + j) * B + i % B) % B = i % B := by rw [Nat.mul_comm, Nat.mul_add_mod, Nat.mod_eq_of_lt hc]
          have hm0 : 0 < m := by omega
          refine ⟨hql, ?_⟩
          rw [hix _ hql, e2, Nat.mul_comm m B, ← Nat.div_div_eq_div_mul, e1, Nat.mul_comm (i / B) m, Nat.mul_add_div hm0, Nat.div_eq_of_lt hj, Nat.add_zero, Nat.mul_comm]
          exact Nat.div_add_mod _ _
    have := foldl_put_perm (how := how) (hperm.map fun q => d.getD q 0) (noneF how)
    rw [List.map_map] at this
    exact this
  · rw [List.getElem?_eq_none (by rw [foldD_length, hre, hsr, Int.toNat_natCast]; exact hi), List.getElem?_eq_none (by rw [winD_length, hs1, Int.toNat_natCast]; exact hi)]
end Go.Proofs.Ytiigbkjkmfjhcaa
