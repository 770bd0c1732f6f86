/- Ways there and back: plain mathematics of chapter 5, second part. No Go in it. -/
import Derived.Test.YtiigbkjkmfjhcaaAx
import Derived.Test.YtiigbkjkmfjhcaaShapeMathB
namespace Go.Proofs.Ytiigbkjkmfjhcaa
open Go.RowKit

theorem pd_pos {s : List Int} (h : ∀ x ∈ s, 1 ≤ x) : 0 < Sh.pd s := by
  induction s with
  | nil => simp [Sh.pd]
  | cons e t ih =>
    rw [Sh.pd]
    exact Int.mul_pos (by have := h e (by simp); omega) (ih fun x hx => h x (by simp [hx]))
theorem place_add {s : List Int} (h : ∀ x ∈ s, 1 ≤ x) : ∀ (x i : Int), Sh.place s (x * Sh.pd s + i) = Sh.place s i := by
  induction s with
  | nil => intro x i; rfl
  | cons e t ih =>
    intro x i
    have ht := pd_pos (s := t) fun x hx => h x (by simp [hx])
    have h1 : x * Sh.pd (e :: t) + i = (x * e) * Sh.pd t + i := by rw [Sh.pd, Int.mul_assoc]
    rw [h1, Sh.place, Sh.place, ih (fun x hx => h x (by simp [hx])) (x * e) i]
    congr 1
    rw [Int.add_comm, Int.add_mul_ediv_right _ _ (by omega), Int.add_mul_emod_self_right]
theorem within_pos {s p : List Int} (hl : p.length = s.length) (hw : Sh.within s p = true) : ∀ x ∈ s, 1 ≤ x := by
  intro x hx
  obtain ⟨k, hk⟩ := List.getElem?_of_mem hx
  obtain ⟨y, hy⟩ := getElem_of (l := p) (k := k) (by rw [hl]; exact (List.getElem?_eq_some_iff.1 hk).1)
  have := Sh.within_at hw hk hy
  omega
/-- The place at a place's number is that place. -/
theorem place_lin : ∀ {s p : List Int}, p.length = s.length → Sh.within s p = true → Sh.place s (Sh.lin s p) = p
  | [], [], _, _ => rfl
  | [], _ :: _, h, _ => by simp at h
  | _ :: _, [], h, _ => by simp at h
  | d :: r, x :: q, hl, hw => by
    have hl' : q.length = r.length := by simpa using hl
    have hw2 : Sh.within r q = true := by
      rw [Sh.within_iff] at hw ⊢
      exact fun z hz => hw z (by rw [List.zip_cons_cons]; exact List.mem_cons_of_mem _ hz)
    have h0 : 0 ≤ x ∧ x < d := by
      rw [Sh.within_iff] at hw
      exact hw (d, x) (by rw [List.zip_cons_cons]; exact List.mem_cons_self)
    have hb := Sh.hor_bd hw2 hl'.symm
    rw [Sh.hor_lin hl', Sh.pr_pd] at hb
    have hP : 0 < Sh.pd r := by omega
    rw [Sh.lin, Sh.place, place_add (within_pos hl' hw2) x (Sh.lin r q), place_lin hl' hw2]
    congr 1
    rw [Int.add_comm, Int.add_mul_ediv_right _ _ (by omega), Int.ediv_eq_zero_of_lt hb.1 (by omega), Int.zero_add]
    exact Int.emod_eq_of_lt h0.1 h0.2
theorem placeOf_index {s p : List Int} (hr : Sh.right s = true) (hl : p.length = s.length) (hw : Sh.within s p = true) : Sh.placeOf s (Sh.index s p) = p := by
  have h1 := index_lt hr hl hw
  rw [Sh.placeOf_place h1.1 h1.2, Sh.index_of hr hl hw, Sh.hor_lin hl]
  exact place_lin hl hw
theorem index_inj {s p q : List Int} (hr : Sh.right s = true) (hl : p.length = s.length) (hw : Sh.within s p = true) (hl' : q.length = s.length) (hw' : Sh.within s q = true) (h : Sh.index s p = Sh.index s q) : p = q := by
  rw [← placeOf_index hr hl hw, h, placeOf_index hr hl' hw']
theorem index_placeOf {s : List Int} {i : Nat} (h : (i : Int) < Sh.size s) : Sh.index s (Sh.placeOf s i) = i := by
  rw [Sh.placeOf_place (by omega) h, Sh.index_place (by omega) h]
theorem placeOf_inj {s : List Int} {i j : Nat} (h : (i : Int) < Sh.size s) (g : (j : Int) < Sh.size s) (e : Sh.placeOf s i = Sh.placeOf s j) : i = j := by
  have h1 := index_placeOf h
  rw [e, index_placeOf g] at h1
  omega

/-! What is set lies there, all else is as it was. -/
theorem scat_miss {o d : List Int} {ix : Nat → Nat} {m : Nat} : ∀ {n : Nat}, (∀ j, j < n → ix j ≠ m) → (scat o d ix n)[m]? = o[m]?
  | 0, _ => rfl
  | n + 1, h => by
    have e : scat o d ix (n + 1) = (scat o d ix n).set (ix n) (d.getD n 0) := by rw [scat, scat, List.range_succ, List.foldl_append]; rfl
    rw [e, List.getElem?_set, if_neg (h n (by omega)), scat_miss fun j hj => h j (by omega)]
theorem scat_hit {o d : List Int} {ix : Nat → Nat} : ∀ {n j : Nat} {x : Int}, (∀ a b, a < n → b < n → ix a = ix b → a = b) → j < n → d[j]? = some x → ix j < o.length → (scat o d ix n)[ix j]? = some x
  | 0, _, _, _, h, _, _ => absurd h (by omega)
  | n + 1, j, x, hi, hj, hx, hl => by
    have e : scat o d ix (n + 1) = (scat o d ix n).set (ix n) (d.getD n 0) := by rw [scat, scat, List.range_succ, List.foldl_append]; rfl
    rw [e, List.getElem?_set]
    by_cases hjn : n = j
    · subst hjn
      rw [if_pos rfl, if_pos (by rw [scat_length]; exact hl), List.getD_eq_getElem?_getD, hx]; rfl
    · rw [if_neg (fun h => hjn (hi n j (by omega) hj h))]
      exact scat_hit (fun a b ha hb => hi a b (by omega) (by omega)) (by omega) hx hl

/-! What is padded and cut is as it was. -/
theorem gen_eq {n : Nat} {f : Nat → Int} {d : List Int} (hl : d.length = n) (h : ∀ i, i < n → d[i]? = some (f i)) : gen n f = d := by
  apply List.ext_getElem?
  intro i
  rcases Nat.lt_or_ge i n with hi | hi
  · rw [gen_at hi, h i hi]
  · rw [List.getElem?_eq_none (by rw [gen_length]; exact hi), List.getElem?_eq_none (by omega)]
theorem num_of {s d p : List Int} {k : Nat} {x : Int} (h : Sh.index s p = k) (hx : d[k]? = some x) : num s d p = x := by
  rw [num, h, Int.toNat_natCast, List.getD_eq_getElem?_getD, hx]; rfl
theorem addP_inj {p q f : List Int} (hp : p.length = f.length) (hq : q.length = f.length) (h : addP p f = addP q f) : p = q := by
  apply List.ext_getElem?
  intro i
  rcases Nat.lt_or_ge i f.length with hi | hi
  · obtain ⟨x, hx⟩ := getElem_of (l := p) (k := i) (by omega)
    obtain ⟨y, hy⟩ := getElem_of (l := q) (k := i) (by omega)
    obtain ⟨z, hz⟩ := getElem_of hi
    have h1 := addP_at hx hz
    rw [h, addP_at hy hz] at h1
    injection h1 with h1
    rw [hx, hy]
    congr 1; omega
  · rw [List.getElem?_eq_none (by omega), List.getElem?_eq_none (by omega)]
theorem pad_cut {s d lo hi : List Int} {n : Int} (h : tenRight s d = true) (g : PadOk s lo hi) (k : Sh.right (padS s lo hi) = true) : tenRight (padS s lo hi) (padD s d lo hi n) = true ∧ cutR (padS s lo hi) (padD s d lo hi n) lo s = (0, s, d) := by
  have hsz := Sh.size_bd (padS s lo hi)
  have hr : tenRight (padS s lo hi) (padD s d lo hi n) = true := by
    simp only [tenRight, k, Bool.true_and, decide_eq_true_eq, padD, scat_length, List.length_replicate]
    omega
  have hdl := len_right h
  have hok : cutOk (padS s lo hi) lo s = true := by
    refine cutOk_all (by rw [padS_length g.1 g.2.1]; exact g.1) (by rw [padS_length g.1 g.2.1]) fun i a b c ha hb hc => ?_
    obtain ⟨z, hz⟩ := getElem_of (l := hi) (k := i) (by rw [g.2.1]; exact (List.getElem?_eq_some_iff.1 hc).1)
    rw [padS_at hb hc hz] at ha; injection ha with ha
    have h1 := g.2.2 i b z hb hz
    have h2 := (Sh.right_iff.1 (right_of h)).2.1 c (List.mem_of_getElem? hc)
    omega
  refine ⟨hr, ?_⟩
  rw [cutR_ok hr hok]
  congr 2
  refine gen_eq (by omega) fun i hi' => ?_
  have hiz : (i : Int) < Sh.size s := by omega
  obtain ⟨x, hx⟩ := getElem_of (l := d) (k := i) (by omega)
  rw [hx]
  congr 1
  have hw := pad_within g hiz
  have hix := index_lt k hw.1 hw.2
  refine (num_of (k := (Sh.index (padS s lo hi) (addP (Sh.placeOf s i) lo)).toNat) (by omega) ?_).symm
  rw [padD]
  refine scat_hit (ix := fun i => (Sh.index (padS s lo hi) (addP (Sh.placeOf s i) lo)).toNat) (j := i) (fun a b ha hb e => ?_) (by omega) hx (by rw [List.length_replicate]; show (Sh.index (padS s lo hi) (addP (Sh.placeOf s i) lo)).toNat < _; omega)
  have haz : (a : Int) < Sh.size s := by omega
  have hbz : (b : Int) < Sh.size s := by omega
  have hwa := pad_within g haz
  have hwb := pad_within g hbz
  have h1 := index_lt k hwa.1 hwa.2
  have h2 := index_lt k hwb.1 hwb.2
  have e2 := index_inj k hwa.1 hwa.2 hwb.1 hwb.2 (by have e : (Sh.index (padS s lo hi) (addP (Sh.placeOf s a) lo)).toNat = (Sh.index (padS s lo hi) (addP (Sh.placeOf s b) lo)).toNat := e; omega)
  have la := (placeOf_of haz).2.1
  have lb := (placeOf_of hbz).2.1
  exact placeOf_inj haz hbz (addP_inj (by rw [la, g.1]) (by rw [lb, g.1]) e2)

/-! What is joined is found again where it lies. -/
theorem addAx_ax {p : List Int} {ax : Nat} {y h : Int} (hy : p[ax]? = some y) : (addAx p ax h)[ax]? = some (y + h) := by
  rw [addAx, List.getElem?_set, if_pos rfl, if_pos (List.getElem?_eq_some_iff.1 hy).1, List.getD_eq_getElem?_getD, hy]; rfl
theorem addAx_other {p : List Int} {ax k : Nat} {h : Int} (hk : k ≠ ax) : (addAx p ax h)[k]? = p[k]? := by
  rw [addAx, List.getElem?_set, if_neg (fun e => hk e.symm)]
theorem addAx_inj {p q : List Int} {ax : Nat} {h : Int} (hl : p.length = q.length) (e : addAx p ax h = addAx q ax h) : p = q := by
  apply List.ext_getElem?
  intro k
  by_cases hk : k = ax
  · subst hk
    rcases Nat.lt_or_ge k p.length with hkl | hkl
    · obtain ⟨x, hx⟩ := getElem_of hkl
      obtain ⟨y, hy⟩ := getElem_of (l := q) (k := k) (by omega)
      have h1 := addAx_ax (h := h) hx
      rw [e, addAx_ax hy] at h1
      injection h1 with h1
      rw [hx, hy]; congr 1; omega
    · rw [List.getElem?_eq_none hkl, List.getElem?_eq_none (by omega)]
  · rw [← addAx_other (h := h) hk, e, addAx_other hk]
theorem tot_le {ax : Nat} {l : TL} (h : allRight l) {i n : Nat} (hi : i ≤ n) : tot ax (l.take i) ≤ tot ax (l.take n) := by
  have h1 := (all_tot (l := l.take n) (fun t ht => h t (List.mem_of_mem_take ht)) ax i).2
  rwa [List.take_take, Nat.min_eq_left hi] at h1
theorem joinUp_at {ax : Nat} {l : TL} (h : allRight l) (hk : JoinOk ax l) (hx : ax < (head1 l).length) : ∀ {n i k : Nat} {t : List Int × List Int} {x : Int}, i < n → n ≤ l.length → l[i]? = some t → (k : Int) < Sh.size t.1 → t.2[k]? = some x →
    (joinUp ax l n)[joinIx (joinS ax l) ax t.1 (tot ax (l.take i)) k]? = some x
  | 0, _, _, _, _, hi, _, _, _, _ => absurd hi (by omega)
  | n + 1, i, k, t, x, hi, hn, ht, hkz, hxk => by
    obtain ⟨u, hu⟩ := getElem_of (l := l) (k := n) (by omega)
    rw [joinUp_step hu]
    have hut := h u (List.mem_of_getElem? hu)
    have hul := len_right hut
    have hwt := join_within h hk hx ht hkz
    have hit := index_lt hk.2 hwt.1 hwt.2
    by_cases hin : i = n
    · subst hin
      rw [hu] at ht; injection ht with ht; subst ht
      refine scat_hit (ix := joinIx (joinS ax l) ax u.1 (tot ax (l.take i))) (fun a b ha hb e => ?_) (by omega) hxk (by rw [joinUp_length, joinIx]; omega)
      have haz : (a : Int) < Sh.size u.1 := by omega
      have hbz : (b : Int) < Sh.size u.1 := by omega
      have hwa := join_within h hk hx hu haz
      have hwb := join_within h hk hx hu hbz
      have h1 := index_lt hk.2 hwa.1 hwa.2
      have h2 := index_lt hk.2 hwb.1 hwb.2
      rw [joinIx, joinIx] at e
      have e2 := index_inj hk.2 hwa.1 hwa.2 hwb.1 hwb.2 (by omega)
      exact placeOf_inj haz hbz (addAx_inj (by rw [(placeOf_of haz).2.1, (placeOf_of hbz).2.1]) e2)
    · rw [scat_miss fun j hj e => ?_]
      · exact joinUp_at h hk hx (by omega) (by omega) ht hkz hxk
      · have hjz : (j : Int) < Sh.size u.1 := by omega
        have hwj := join_within h hk hx hu hjz
        have h2 := index_lt hk.2 hwj.1 hwj.2
        rw [joinIx, joinIx] at e
        have e2 := index_inj hk.2 hwj.1 hwj.2 hwt.1 hwt.2 (by omega)
        have hft := (hk.1 t (List.mem_of_getElem? ht)).1
        have hfu := (hk.1 u (List.mem_of_getElem? hu)).1
        obtain ⟨_, hlt, hpt, _⟩ := placeOf_of hkz
        obtain ⟨_, hlu, hpu, _⟩ := placeOf_of hjz
        obtain ⟨y, hy⟩ := getElem_of (l := Sh.placeOf t.1 k) (k := ax) (by omega)
        obtain ⟨z, hz⟩ := getElem_of (l := Sh.placeOf u.1 j) (k := ax) (by omega)
        obtain ⟨dt, hdt⟩ := getElem_of (l := t.1) (k := ax) (by omega)
        obtain ⟨du, hdu⟩ := getElem_of (l := u.1) (k := ax) (by omega)
        have h3 := addAx_ax (h := tot ax (l.take n)) hz
        rw [e2, addAx_ax hy] at h3
        injection h3 with h3
        have h4 := Sh.within_at hpt hdt hy
        have h5 := Sh.within_at hpu hdu hz
        have h6 := tot_take ht hdt
        have h7 := tot_le h (ax := ax) (show i + 1 ≤ n by omega)
        omega
/-- One of those that were joined, cut out again. -/
theorem join_cut {ax : Nat} {l : TL} (h : allRight l) (hk : JoinOk ax l) (hx : ax < (head1 l).length) {i : Nat} {t : List Int × List Int} (ht : l[i]? = some t) :
    tenRight (joinS ax l) (joinUp ax l l.length) = true ∧ cutR (joinS ax l) (joinUp ax l l.length) (((List.replicate (head1 l).length 0) : List Int).set ax (tot ax (l.take i))) t.1 = (0, t.1, t.2) := by
  have hsz := Sh.size_bd (joinS ax l)
  have hr : tenRight (joinS ax l) (joinUp ax l l.length) = true := by
    simp only [tenRight, hk.2, Bool.true_and, decide_eq_true_eq, joinUp_length]
    omega
  have htr := h t (List.mem_of_getElem? ht)
  have hft := hk.1 t (List.mem_of_getElem? ht)
  have hil : i < l.length := (List.getElem?_eq_some_iff.1 ht).1
  have hzl : (((List.replicate (head1 l).length 0) : List Int).set ax (tot ax (l.take i))).length = (head1 l).length := by simp
  have hok : cutOk (joinS ax l) (((List.replicate (head1 l).length 0) : List Int).set ax (tot ax (l.take i))) t.1 = true := by
    refine cutOk_all (by rw [hzl, joinS_length]) (by rw [hft.1, joinS_length]) fun k a b c ha hb hc => ?_
    have hkl : k < (head1 l).length := by rw [← hft.1]; exact (List.getElem?_eq_some_iff.1 hc).1
    have hc2 := (Sh.right_iff.1 (right_of htr)).2.1 c (List.mem_of_getElem? hc)
    rw [List.getElem?_set] at hb
    rw [joinS, List.getElem?_set] at ha
    by_cases hka : ax = k
    · subst hka
      rw [if_pos rfl, if_pos (by simpa using hkl)] at hb
      rw [if_pos rfl, if_pos hkl] at ha
      injection hb with hb; injection ha with ha
      have h1 := all_tot h ax i
      have h2 := all_tot h ax (i + 1)
      rw [tot_take ht hc] at h2
      omega
    · rw [if_neg hka, List.getElem?_replicate, if_pos hkl] at hb
      rw [if_neg hka] at ha
      injection hb with hb
      have := hft.2 k c a (fun e => hka e.symm) hc ha
      omega
  refine ⟨hr, ?_⟩
  rw [cutR_ok hr hok]
  congr 2
  have htl := len_right htr
  refine gen_eq (by omega) fun k hk' => ?_
  have hkz : (k : Int) < Sh.size t.1 := by omega
  obtain ⟨x, hx'⟩ := getElem_of (l := t.2) (k := k) (by omega)
  rw [hx']
  congr 1
  obtain ⟨_, hpl, _, _⟩ := placeOf_of hkz
  have hf1 := hft.1
  have e : addP (Sh.placeOf t.1 k) (((List.replicate (head1 l).length 0) : List Int).set ax (tot ax (l.take i))) = addAx (Sh.placeOf t.1 k) ax (tot ax (l.take i)) := by
    apply List.ext_getElem?
    intro m
    rcases Nat.lt_or_ge m (head1 l).length with hm | hm
    · obtain ⟨y, hy⟩ := getElem_of (l := Sh.placeOf t.1 k) (k := m) (by omega)
      by_cases hma : m = ax
      · subst hma
        rw [addAx_ax hy, addP_at hy (by rw [List.getElem?_set, if_pos rfl, if_pos (by simpa using hm)])]
      · rw [addAx_other hma, hy, addP_at hy (by rw [List.getElem?_set, if_neg (fun e => hma e.symm), List.getElem?_replicate, if_pos hm])]
        simp
    · rw [List.getElem?_eq_none (by rw [addP_length (by simp; omega)]; omega), List.getElem?_eq_none (by rw [addAx_length]; omega)]
  have hw := join_within h hk hx ht hkz
  have hix := index_lt hk.2 hw.1 hw.2
  rw [e]
  refine (num_of (k := joinIx (joinS ax l) ax t.1 (tot ax (l.take i)) k) (by rw [joinIx]; omega) ?_).symm
  exact joinUp_at h hk hx hil (Nat.le_refl _) ht hkz hx'

theorem set_same_ {l : List Int} {j : Nat} {x : Int} (h : l[j]? = some x) : l.set j x = l := by
  apply List.ext_getElem?
  intro i
  rw [List.getElem?_set]
  by_cases hi : j = i
  · subst hi; rw [if_pos rfl, h, if_pos (List.getElem?_eq_some_iff.1 h).1]
  · rw [if_neg hi]
/-! What is cut in two and joined is as it was. -/
theorem index_of_place {s p : List Int} (hr : Sh.right s = true) (hl : p.length = s.length) (hw : Sh.within s p = true) : ∃ k : Nat, Sh.index s p = k ∧ (k : Int) < Sh.size s ∧ Sh.placeOf s (k : Int) = p := by
  have h := index_lt hr hl hw
  refine ⟨(Sh.index s p).toNat, by omega, by omega, ?_⟩
  rw [Int.toNat_of_nonneg h.1]
  exact placeOf_index hr hl hw
theorem right_less {s : List Int} {ax : Nat} {x y : Int} (hr : Sh.right s = true) (hx : s[ax]? = some x) (h0 : 0 ≤ y) (hy : y ≤ x) : Sh.right (s.set ax y) = true := by
  have h := Sh.right_iff.1 hr
  refine Sh.right_iff.2 ⟨by simpa using h.1, fun z hz => ?_, ?_⟩
  · rcases List.mem_or_eq_of_mem_set hz with hz | rfl
    · exact h.2.1 z hz
    · have := h.2.1 x (List.mem_of_getElem? hx); omega
  · have key : ∀ (l : List Int) (k : Nat), (∀ z ∈ l, 0 ≤ z ∧ z ≤ 32) → l[k]? = some x → Sh.pd (l.set k y) ≤ Sh.pd l := by
      intro l
      induction l with
      | nil => intro k _ hk; simp at hk
      | cons e t ih =>
        intro k hd hk
        have ht := Sh.pd_nonneg (s := t) fun z hz => hd z (by simp [hz])
        cases k with
        | zero =>
          simp at hk; subst hk
          rw [List.set_cons_zero, Sh.pd, Sh.pd]
          exact Int.mul_le_mul_of_nonneg_right hy ht
        | succ k =>
          rw [List.set_cons_succ, Sh.pd, Sh.pd]
          exact Int.mul_le_mul_of_nonneg_left (ih k (fun z hz => hd z (by simp [hz])) (by simpa using hk)) (hd e (by simp)).1
    have := key s ax h.2.1 hx
    rw [Sh.pr_pd]
    have h3 := h.2.2
    rw [Sh.pr_pd] at h3
    omega
theorem addAx_zero (p : List Int) (ax : Nat) : addAx p ax 0 = p := by
  apply List.ext_getElem?
  intro k
  by_cases hk : k = ax
  · subst hk
    rcases Nat.lt_or_ge k p.length with h | h
    · obtain ⟨x, hx⟩ := getElem_of h
      rw [addAx_ax hx, hx, Int.add_zero]
    · rw [List.getElem?_eq_none (by rw [addAx_length]; exact h), List.getElem?_eq_none h]
  · exact addAx_other hk
/-- Adding a list that is 0 but at one way. -/
theorem addP_ax {p : List Int} {n ax : Nat} {h : Int} (hp : p.length = n) : addP p ((List.replicate n 0 : List Int).set ax h) = addAx p ax h := by
  apply List.ext_getElem?
  intro m
  rcases Nat.lt_or_ge m n with hm | hm
  · obtain ⟨y, hy⟩ := getElem_of (l := p) (k := m) (by omega)
    by_cases hma : m = ax
    · subst hma
      rw [addAx_ax hy, addP_at hy (by rw [List.getElem?_set, if_pos rfl, if_pos (by simpa using hm)])]
    · rw [addAx_other hma, hy, addP_at hy (by rw [List.getElem?_set, if_neg (fun e => hma e.symm), List.getElem?_replicate, if_pos hm])]
      simp
  · rw [List.getElem?_eq_none (by rw [addP_length (by simp; omega)]; omega), List.getElem?_eq_none (by rw [addAx_length]; omega)]
theorem addP_zero {p : List Int} {n : Nat} (hp : p.length = n) : addP p (List.replicate n 0) = p := by
  have := addP_ax (ax := n) (h := 0) hp
  rw [addAx_zero] at this
  rw [← this]
  congr 1
  apply List.ext_getElem?
  intro m
  rw [List.getElem?_set]
  by_cases hm : n = m
  · subst hm; rw [if_pos rfl, if_neg (by simp), List.getElem?_eq_none (by simp)]
  · rw [if_neg hm]
theorem cut_ok_ax {s : List Int} {ax : Nat} {x h y : Int} (hr : Sh.right s = true) (hx : s[ax]? = some x) (h0 : 0 ≤ h) (hy : 0 ≤ y) (hhy : h + y ≤ x) : cutOk s ((List.replicate s.length 0 : List Int).set ax h) (s.set ax y) = true := by
  refine cutOk_all (by simp) (by simp) fun k a b c ha hb hc => ?_
  have hkl : k < s.length := (List.getElem?_eq_some_iff.1 ha).1
  have ha2 := (Sh.right_iff.1 hr).2.1 a (List.mem_of_getElem? ha)
  rw [List.getElem?_set] at hb hc
  by_cases hka : ax = k
  · subst hka
    rw [if_pos rfl, if_pos (by simpa using hkl)] at hb
    rw [if_pos rfl, if_pos hkl] at hc
    rw [hx] at ha
    injection ha with ha; injection hb with hb; injection hc with hc
    omega
  · rw [if_neg hka, List.getElem?_replicate, if_pos hkl] at hb
    rw [if_neg hka, ha] at hc
    injection hb with hb; injection hc with hc
    omega
theorem cutD_length (s d f z : List Int) : (cutD s d f z).length = (Sh.size z).toNat := gen_length _ _
theorem cut_right {s d f z : List Int} (hz : Sh.right z = true) : tenRight z (cutD s d f z) = true := by
  have := Sh.size_bd z
  simp only [tenRight, hz, Bool.true_and, decide_eq_true_eq, cutD_length]
  omega
theorem cut_join {s d : List Int} {ax : Nat} {x k : Int} (h : tenRight s d = true) (hx : s[ax]? = some x) (h0 : 0 ≤ k) (hk : k ≤ x) :
    cutR s d (List.replicate s.length 0) (s.set ax k) = (0, s.set ax k, cutD s d (List.replicate s.length 0) (s.set ax k)) ∧
    cutR s d ((List.replicate s.length 0 : List Int).set ax k) (s.set ax (x - k)) = (0, s.set ax (x - k), cutD s d ((List.replicate s.length 0 : List Int).set ax k) (s.set ax (x - k))) ∧
    joinR ax [(s.set ax k, cutD s d (List.replicate s.length 0) (s.set ax k)), (s.set ax (x - k), cutD s d ((List.replicate s.length 0 : List Int).set ax k) (s.set ax (x - k)))] = (0, s, d) := by
  have hr := right_of h
  have hal : ax < s.length := (List.getElem?_eq_some_iff.1 hx).1
  have hr1 := right_less hr hx h0 hk
  have hr2 := right_less (y := x - k) hr hx (by omega) (by omega)
  have hz0 : (List.replicate s.length 0 : List Int).set ax 0 = List.replicate s.length 0 := by
    apply List.ext_getElem?
    intro m
    rw [List.getElem?_set]
    by_cases hm : ax = m
    · subst hm; rw [if_pos rfl, if_pos (by simpa using hal), List.getElem?_replicate, if_pos hal]
    · rw [if_neg hm]
  have hc1 := cut_ok_ax (h := 0) (y := k) hr hx (by omega) h0 (by omega)
  rw [hz0] at hc1
  have hc2 := cut_ok_ax (h := k) (y := x - k) hr hx h0 (by omega) (by omega)
  refine ⟨cutR_ok h hc1, cutR_ok h hc2, ?_⟩
  obtain ⟨d1, hd1⟩ : ∃ z, cutD s d (List.replicate s.length 0) (s.set ax k) = z := ⟨_, rfl⟩
  obtain ⟨d2, hd2⟩ : ∃ z, cutD s d ((List.replicate s.length 0 : List Int).set ax k) (s.set ax (x - k)) = z := ⟨_, rfl⟩
  have ht1 : tenRight (s.set ax k) d1 = true := by rw [← hd1]; exact cut_right hr1
  have ht2 : tenRight (s.set ax (x - k)) d2 = true := by rw [← hd2]; exact cut_right hr2
  rw [hd1, hd2]
  have hal2 : allRight [(s.set ax k, d1), (s.set ax (x - k), d2)] := fun t ht => by
    simp at ht
    rcases ht with rfl | rfl
    · exact ht1
    · exact ht2
  have g1 : (s.set ax k)[ax]? = some k := by rw [List.getElem?_set, if_pos rfl, if_pos hal]
  have g2 : (s.set ax (x - k))[ax]? = some (x - k) := by rw [List.getElem?_set, if_pos rfl, if_pos hal]
  have htot : tot ax [(s.set ax k, d1), (s.set ax (x - k), d2)] = x := by
    simp only [tot, List.foldl_cons, List.foldl_nil, List.getD_eq_getElem?_getD, g1, g2, Option.getD_some]
    omega
  have hjs : joinS ax [(s.set ax k, d1), (s.set ax (x - k), d2)] = s := by
    rw [joinS, htot]
    show (s.set ax k).set ax x = s
    rw [List.set_set]
    exact set_same_ hx
  have hjk : JoinOk ax [(s.set ax k, d1), (s.set ax (x - k), d2)] := ⟨fun t ht => by
    simp at ht
    have key : ∀ y : Int, fitAx (s.set ax k) ax (s.set ax y) := fun y => ⟨by simp, fun m a b hm ha hb => by
      rw [List.getElem?_set, if_neg (fun e => hm e.symm)] at ha hb
      rw [ha] at hb; injection hb⟩
    rcases ht with rfl | rfl
    · exact key k
    · exact key (x - k), by rw [hjs]; exact hr⟩
  have hax : axOk (ax : Int) [(s.set ax k, d1), (s.set ax (x - k), d2)] := ⟨_, rfl, by omega, by simp; omega⟩
  rw [joinR_ok hal2 hax hjk]
  show (0, joinS ax _, joinUp ax _ 2) = _
  have hxl : ax < (head1 [(s.set ax k, d1), (s.set ax (x - k), d2)]).length := by show ax < (s.set ax k).length; simpa using hal
  rw [hjs]
  congr 2
  apply List.ext_getElem?
  intro m
  have hsd := len_right h
  rcases Nat.lt_or_ge m d.length with hm | hm
  · have hmz : (m : Int) < Sh.size s := by omega
    obtain ⟨_, hpl, hpw, _⟩ := placeOf_of hmz
    obtain ⟨p, hp⟩ : ∃ p, Sh.placeOf s m = p := ⟨_, rfl⟩
    have hpi := index_placeOf hmz
    rw [hp] at hpl hpw hpi
    obtain ⟨y, hy⟩ := getElem_of (l := p) (k := ax) (by omega)
    obtain ⟨v, hv⟩ := getElem_of hm
    have hyx := Sh.within_at hpw hx hy
    rw [hv]
    by_cases hyk : y < k
    · have hw1 : Sh.within (s.set ax k) p = true := within_of (by simpa using hpl) fun q a b hb ha => by
        rw [List.getElem?_set] at hb
        by_cases hq : ax = q
        · subst hq; rw [if_pos rfl, if_pos hal] at hb; injection hb with hb; rw [hy] at ha; injection ha with ha; omega
        · rw [if_neg hq] at hb; exact Sh.within_at hpw hb ha
      obtain ⟨k1, hk1, hk1z, hk1p⟩ := index_of_place hr1 (by simpa using hpl) hw1
      have hval : d1[k1]? = some v := by
        rw [← hd1, cutD, gen_at (by omega), hk1p, addP_zero hpl]
        congr 1
        exact num_of hpi hv
      have e := joinUp_at hal2 hjk hxl (n := 2) (i := 0) (by omega) (Nat.le_refl _) rfl hk1z hval
      rw [joinIx, hjs] at e
      simp only [List.take_zero] at e
      rw [hk1p, show tot ax [] = 0 from rfl, addAx_zero, hpi, Int.toNat_natCast] at e
      exact e
    · have hp'l : (p.set ax (y - k)).length = (s.set ax (x - k)).length := by simp [hpl]
      have hw1 : Sh.within (s.set ax (x - k)) (p.set ax (y - k)) = true := within_of hp'l fun q a b hb ha => by
        rw [List.getElem?_set] at hb ha
        by_cases hq : ax = q
        · subst hq; rw [if_pos rfl, if_pos hal] at hb; rw [if_pos rfl, if_pos (by omega)] at ha; injection hb with hb; injection ha with ha; omega
        · rw [if_neg hq] at hb ha; exact Sh.within_at hpw hb ha
      obtain ⟨k1, hk1, hk1z, hk1p⟩ := index_of_place hr2 hp'l hw1
      have hback : addAx (p.set ax (y - k)) ax k = p := by
        apply List.ext_getElem?
        intro q
        by_cases hq : q = ax
        · subst hq
          rw [addAx_ax (y := y - k) (by rw [List.getElem?_set, if_pos rfl, if_pos (by omega)]), hy]
          congr 1; omega
        · rw [addAx_other hq, List.getElem?_set, if_neg (fun e => hq e.symm)]
      have hval : d2[k1]? = some v := by
        rw [← hd2, cutD, gen_at (by omega), hk1p, addP_ax (by simpa using hpl), hback]
        congr 1
        exact num_of hpi hv
      have e := joinUp_at hal2 hjk hxl (n := 2) (i := 1) (by omega) (Nat.le_refl _) rfl hk1z hval
      rw [joinIx, hjs] at e
      have ht1' : tot ax (List.take 1 [(s.set ax k, d1), (s.set ax (x - k), d2)]) = k := by
        simp only [List.take_succ_cons, List.take_zero, tot, List.foldl_cons, List.foldl_nil, List.getD_eq_getElem?_getD, g1, Option.getD_some]
        omega
      rw [hk1p, ht1', hback, hpi, Int.toNat_natCast] at e
      exact e
  · rw [List.getElem?_eq_none (by rw [joinUp_length, hjs]; omega), List.getElem?_eq_none hm]

/-! What is turned, and turned back, is as it was. -/
theorem pd_perm {l l' : List Int} (h : l.Perm l') : Sh.pd l = Sh.pd l' := by
  induction h with
  | nil => rfl
  | cons x _ ih => rw [Sh.pd, Sh.pd, ih]
  | swap x y l => rw [Sh.pd, Sh.pd, Sh.pd, Sh.pd, ← Int.mul_assoc, ← Int.mul_assoc, Int.mul_comm x y]
  | trans _ _ h1 h2 => exact h1.trans h2
theorem tu_nodup {s a : List Int} (h : TuOk s a) : (a.map Int.toNat).Nodup := by
  show List.Pairwise (· ≠ ·) _
  rw [List.pairwise_iff_getElem]
  intro i j hi hj hij
  simp only [List.length_map] at hi hj
  simp only [List.getElem_map]
  intro e
  have hx : a[i]? = some a[i] := List.getElem?_eq_getElem hi
  have hy : a[j]? = some a[j] := List.getElem?_eq_getElem hj
  have h1 := tu_in h hx
  have h2 := tu_in h hy
  have hxy : a[i] = a[j] := by omega
  rw [← hxy] at hy
  have := tu_inj h hx hy
  omega
theorem turnS_perm {s a : List Int} (h : TuOk s a) : (turnS s a).Perm s := by
  have h1 : (a.map Int.toNat).Perm (List.range s.length) := by
    refine (List.perm_ext_iff_of_nodup (tu_nodup h) List.nodup_range).2 fun q => ?_
    rw [List.mem_range, List.mem_map]
    constructor
    · rintro ⟨x, hx, rfl⟩
      obtain ⟨i, hi⟩ := List.getElem?_of_mem hx
      exact (tu_in h hi).2
    · intro hq
      obtain ⟨i, hi⟩ := tu_onto h hq
      exact ⟨_, List.mem_of_getElem? hi, by simp⟩
  have h2 := h1.map (fun j => s.getD j 0)
  have e1 : (a.map Int.toNat).map (fun j => s.getD j 0) = turnS s a := by rw [List.map_map]; rfl
  have e2 : (List.range s.length).map (fun j => s.getD j 0) = s := by
    apply List.ext_getElem?
    intro i
    rcases Nat.lt_or_ge i s.length with hi | hi
    · rw [List.getElem?_map, List.getElem?_range hi]
      simp [List.getD_eq_getElem?_getD, List.getElem?_eq_getElem hi]
    · rw [List.getElem?_eq_none (by simpa using hi), List.getElem?_eq_none hi]
  rwa [e1, e2] at h2
theorem turn_right {s a : List Int} (h : TuOk s a) (hr : Sh.right s = true) : Sh.right (turnS s a) = true ∧ Sh.size (turnS s a) = Sh.size s := by
  have hp := turnS_perm h
  have h1 := Sh.right_iff.1 hr
  have e : Sh.pr (turnS s a) = Sh.pr s := by rw [Sh.pr_pd, Sh.pr_pd, pd_perm hp]
  have hr2 : Sh.right (turnS s a) = true := Sh.right_iff.2 ⟨by rw [hp.length_eq]; exact h1.1, fun x hx => h1.2.1 x (hp.mem_iff.1 hx), by rw [e]; exact h1.2.2⟩
  exact ⟨hr2, by rw [Sh.size_of hr2, Sh.size_of hr, e]⟩
theorem turn_back {s d a b : List Int} (h : tenRight s d = true) (ha : TuOk s a) (hb : b.length = a.length) (hinv : ∀ (i : Nat) (x : Int), a[i]? = some x → b[x.toNat]? = some (i : Int)) :
    tenRight (turnS s a) (turnD s d a) = true ∧ turnR (turnS s a) (turnD s d a) b = (0, s, d) := by
  obtain ⟨hr2, hsz⟩ := turn_right ha (right_of h)
  have hszb := Sh.size_bd (turnS s a)
  have ht2 : tenRight (turnS s a) (turnD s d a) = true := by
    simp only [tenRight, hr2, Bool.true_and, decide_eq_true_eq, turnD, gen_length]
    omega
  have hlen := ha.1
  have hbk : ∀ (i : Nat), i < b.length → ∃ k : Nat, b[i]? = some (k : Int) ∧ a[k]? = some (i : Int) := fun i hi => by
    obtain ⟨k, hk⟩ := tu_onto ha (q := i) (by omega)
    exact ⟨k, by have := hinv k i hk; rwa [Int.toNat_natCast] at this, hk⟩
  have hbo : TuOk (turnS s a) b := ⟨by rw [turnS_length]; exact hb, fun i x hx => by
    have hi : i < b.length := (List.getElem?_eq_some_iff.1 hx).1
    obtain ⟨k, hk, hak⟩ := hbk i hi
    rw [hk] at hx; injection hx with hx; subst hx
    have hka : k < a.length := (List.getElem?_eq_some_iff.1 hak).1
    refine ⟨by omega, by rw [turnS_length]; omega, fun hm => ?_⟩
    obtain ⟨j, hj⟩ := List.getElem?_of_mem hm
    rw [List.getElem?_take] at hj
    split at hj
    · rename_i hji
      obtain ⟨k2, hk2, hak2⟩ := hbk j (by omega)
      rw [hk2] at hj; injection hj with hj
      have : k2 = k := by omega
      subst this
      rw [hak] at hak2; injection hak2 with hak2; omega
    · cases hj⟩
  have hss : turnS (turnS s a) b = s := by
    apply List.ext_getElem?
    intro i
    rcases Nat.lt_or_ge i s.length with hi | hi
    · obtain ⟨k, hk, hak⟩ := hbk i (by omega)
      obtain ⟨y, hy⟩ := getElem_of hi
      rw [hy]
      exact turnS_at hk (by rw [Int.toNat_natCast]; exact turnS_at hak (by rwa [Int.toNat_natCast]))
    · rw [List.getElem?_eq_none (by rw [turnS_length]; omega), List.getElem?_eq_none hi]
  refine ⟨ht2, ?_⟩
  rw [turnR_ok ht2 hbo, turnD, hss]
  congr 2
  have hdl := len_right h
  have hsb := Sh.size_bd s
  refine gen_eq (by omega) fun i hi => ?_
  have hiz : (i : Int) < Sh.size s := by omega
  obtain ⟨v, hv⟩ := getElem_of (l := d) (k := i) (by omega)
  rw [hv]
  congr 1
  have hwq := turn_within hbo (i := i) (by rw [hss]; exact hiz)
  rw [hss] at hwq
  obtain ⟨q, hq⟩ : ∃ q, turnP (turnS s a).length b (Sh.placeOf s i) = q := ⟨_, rfl⟩
  rw [hq] at hwq ⊢
  obtain ⟨j, hj, hjz, hjp⟩ := index_of_place hr2 hwq.1 hwq.2
  obtain ⟨_, hpl, hpw, _⟩ := placeOf_of hiz
  have hqat : ∀ (k : Nat) (x : Int), a[k]? = some x → q[k]? = (Sh.placeOf s i)[x.toNat]? := fun k x hk => by
    have hx := tu_in ha hk
    obtain ⟨y, hy⟩ := getElem_of (l := Sh.placeOf s i) (k := x.toNat) (by omega)
    rw [hy, ← hq, turnP]
    have := setAll_at (f := List.replicate (turnS s a).length 0) hbo (p := Sh.placeOf s i) (by omega) (by simp) (k := b.length) (i := x.toNat) (by omega) (Nat.le_refl _) (hinv k x hk) hy
    rwa [Int.toNat_natCast] at this
  have hpq : turnP s.length a q = Sh.placeOf s i := by
    apply List.ext_getElem?
    intro m
    rcases Nat.lt_or_ge m s.length with hm | hm
    · obtain ⟨k, hk⟩ := tu_onto ha hm
      have hka : k < a.length := (List.getElem?_eq_some_iff.1 hk).1
      obtain ⟨y, hy⟩ := getElem_of (l := q) (k := k) (by rw [hwq.1, turnS_length]; exact hka)
      have h1 := hqat k m hk
      rw [hy, Int.toNat_natCast] at h1
      have := setAll_at (f := List.replicate s.length 0) ha (p := q) (by rw [hwq.1, turnS_length]) (by simp) (k := a.length) hka (Nat.le_refl _) hk hy
      rw [Int.toNat_natCast] at this
      rw [turnP, this, h1]
    · rw [List.getElem?_eq_none (by rw [turnP, setAll_length, List.length_replicate]; exact hm), List.getElem?_eq_none (by omega)]
  refine (num_of hj ?_).symm
  rw [turnD, gen_at (by omega), hjp, hpq]
  congr 1
  exact num_of (index_placeOf hiz) hv

/-! What is spread along an axis is the same at each place of it. -/
def ins (l : List Int) (k : Nat) (x : Int) : List Int := l.take k ++ [x] ++ l.drop k
theorem ins_length {l : List Int} {k : Nat} (x : Int) (hk : k ≤ l.length) : (ins l k x).length = l.length + 1 := by simp [ins]; omega
theorem ins_at {l : List Int} {k : Nat} {x : Int} (hk : k ≤ l.length) (j : Nat) : (ins l k x)[j]? = if j < k then l[j]? else if j = k then some x else l[j - 1]? := by
  have hl : (l.take k).length = k := by simp; omega
  rw [ins, List.append_assoc]
  by_cases h1 : j < k
  · rw [if_pos h1, List.getElem?_append_left (by omega), List.getElem?_take, if_pos h1]
  · rw [if_neg h1, List.getElem?_append_right (by omega), hl]
    by_cases h2 : j = k
    · subst h2; rw [if_pos rfl, Nat.sub_self]; rfl
    · rw [if_neg h2]
      obtain ⟨m, hm⟩ : ∃ m, j - k = m + 1 := ⟨j - k - 1, by omega⟩
      rw [hm, List.singleton_append, List.getElem?_cons_succ, List.getElem?_drop]
      congr 1; omega
theorem ins_set {l : List Int} {k : Nat} {x y : Int} (hk : k ≤ l.length) : (ins l k x).set k y = ins l k y := by
  apply List.ext_getElem?
  intro j
  rw [List.getElem?_set, ins_at hk, ins_at hk]
  by_cases h : k = j
  · subst h
    rw [if_pos rfl, if_pos (by rw [ins_length x hk]; omega), if_neg (by omega), if_pos rfl]
  · rw [if_neg h]
    by_cases h1 : j < k
    · rw [if_pos h1, if_pos h1]
    · rw [if_neg h1, if_neg h1, if_neg (fun e => h e.symm), if_neg (fun e => h e.symm)]
theorem pd_ins {s : List Int} (k : Nat) : Sh.pd (ins s k 1) = Sh.pd s := by
  have h : Sh.pd (ins s k 1) = Sh.pd (s.take k) * Sh.pd (s.drop k) := by
    rw [ins, Sh.pd_append, Sh.pd_append, Sh.pd, Sh.pd, Int.mul_one, Int.mul_one]
  rw [h, ← Sh.pd_append, List.take_append_drop]
theorem lin_ins : ∀ {k : Nat} {s p : List Int}, p.length = s.length → k ≤ s.length → Sh.lin (ins s k 1) (ins p k 0) = Sh.lin s p
  | 0, s, p, _, _ => by simp [ins, Sh.lin]
  | k + 1, [], p, hl, hk => by simp at hk
  | k + 1, d :: r, [], hl, hk => by simp at hl
  | k + 1, d :: r, x :: q, hl, hk => by
    have e1 : ins (d :: r) (k + 1) 1 = d :: ins r k 1 := by simp [ins]
    have e2 : ins (x :: q) (k + 1) 0 = x :: ins q k 0 := by simp [ins]
    rw [e1, e2, Sh.lin, Sh.lin, pd_ins, lin_ins (by simpa using hl) (by simpa using hk)]
theorem within_ins {s p : List Int} {k : Nat} {m i : Int} (hl : p.length = s.length) (hw : Sh.within s p = true) (hk : k ≤ s.length) (h0 : 0 ≤ i) (him : i < m) : Sh.within (ins s k m) (ins p k i) = true := by
  refine within_of (by rw [ins_length _ (by omega), ins_length _ hk, hl]) fun j x y hy hx => ?_
  rw [ins_at hk] at hy
  rw [ins_at (by omega)] at hx
  by_cases h1 : j < k
  · rw [if_pos h1] at hy hx; exact Sh.within_at hw hy hx
  · rw [if_neg h1] at hy hx
    by_cases h2 : j = k
    · rw [if_pos h2] at hy hx; injection hy with hy; injection hx with hx; omega
    · rw [if_neg h2] at hy hx; exact Sh.within_at hw hy hx
/-- All numbers below n + 1 but k, in order. -/
def skip (k n : Nat) : List Int := gen n fun j => if j < k then (j : Int) else (j : Int) + 1
theorem skip_at {k n j : Nat} (h : j < n) : (skip k n)[j]? = some (if j < k then (j : Int) else (j : Int) + 1) := gen_at h
theorem skip_length (k n : Nat) : (skip k n).length = n := gen_length _ _
theorem spread_ok {s : List Int} {k : Nat} (m : Int) (hk : k ≤ s.length) : SpOk s (ins s k m) (skip k s.length) := by
  refine ⟨skip_length _ _, fun i x y hx hy => ?_⟩
  have hi : i < s.length := (List.getElem?_eq_some_iff.1 hy).1
  rw [skip_at hi] at hx; injection hx with hx
  have hil := ins_length m hk
  by_cases h1 : i < k
  · rw [if_pos h1] at hx; subst hx
    refine ⟨by omega, by omega, fun z hz hz2 => ?_, by rw [Int.toNat_natCast, ins_at hk, if_pos h1]; exact hy⟩
    rw [skip_at (by omega), if_pos (by omega)] at hz2; injection hz2 with hz2; omega
  · rw [if_neg h1] at hx; subst hx
    refine ⟨by omega, by omega, fun z hz hz2 => ?_, ?_⟩
    · rw [skip_at (by omega)] at hz2; injection hz2 with hz2
      split at hz2 <;> omega
    · rw [show ((i : Int) + 1).toNat = i + 1 by omega, ins_at hk, if_neg (by omega), if_neg (by omega)]
      exact hy
theorem spP_ins {p : List Int} {k n : Nat} {i : Int} (hp : p.length = n) (hk : k ≤ n) : spP (ins p k i) (skip k n) = p := by
  apply List.ext_getElem?
  intro j
  rcases Nat.lt_or_ge j n with hj | hj
  · obtain ⟨x, hx⟩ := getElem_of (l := p) (k := j) (by omega)
    rw [hx]
    refine spP_at (skip_at hj) ?_
    by_cases h1 : j < k
    · rw [if_pos h1, Int.toNat_natCast, ins_at (by omega), if_pos h1]; exact hx
    · rw [if_neg h1, show ((j : Int) + 1).toNat = j + 1 by omega, ins_at (by omega), if_neg (by omega), if_neg (by omega)]; exact hx
  · rw [List.getElem?_eq_none (by rw [spP_length, skip_length]; exact hj), List.getElem?_eq_none (by omega)]
theorem spread_cut {s d : List Int} {k : Nat} {m i : Int} (h : tenRight s d = true) (hl3 : s.length ≤ 3) (hk : k ≤ s.length) (hro : Sh.right (ins s k m) = true) (h0 : 0 ≤ i) (him : i < m) :
    tenRight (ins s k m) (spD s d (ins s k m) (skip k s.length)) = true ∧
    cutR (ins s k m) (spD s d (ins s k m) (skip k s.length)) ((List.replicate (s.length + 1) 0 : List Int).set k i) (ins s k 1) = (0, ins s k 1, d) := by
  have hsb := Sh.size_bd (ins s k m)
  have hol := ins_length m hk
  have hr : tenRight (ins s k m) (spD s d (ins s k m) (skip k s.length)) = true := by
    simp only [tenRight, hro, Bool.true_and, decide_eq_true_eq, spD, gen_length]
    omega
  have hkm : (ins s k m)[k]? = some m := by rw [ins_at hk, if_neg (by omega), if_pos rfl]
  have hok := cut_ok_ax (h := i) (y := 1) hro hkm h0 (by omega) (by omega)
  rw [hol, ins_set hk] at hok
  refine ⟨hr, ?_⟩
  rw [cutR_ok hr hok]
  congr 2
  have hsz : Sh.size (ins s k 1) = Sh.size s := Sh.size_insert (right_of h) hl3 k
  have hr1 : Sh.right (ins s k 1) = true := by
    have := right_less (y := 1) hro hkm (by omega) (by omega)
    rwa [ins_set hk] at this
  have hdl := len_right h
  have hs0 := Sh.size_bd s
  refine gen_eq (by omega) fun j hj => ?_
  have hjz : (j : Int) < Sh.size s := by omega
  obtain ⟨v, hv⟩ := getElem_of (l := d) (k := j) (by omega)
  rw [hv]
  congr 1
  obtain ⟨_, hpl, hpw, _⟩ := placeOf_of hjz
  have hpi := index_placeOf hjz
  obtain ⟨p, hp⟩ : ∃ p, Sh.placeOf s j = p := ⟨_, rfl⟩
  rw [hp] at hpl hpw hpi
  have hw1 := within_ins (m := 1) (i := 0) hpl hpw hk (by omega) (by omega)
  have hl1 : (ins p k 0).length = (ins s k 1).length := by rw [ins_length _ (by omega), ins_length _ hk, hpl]
  have hP : Sh.placeOf (ins s k 1) j = ins p k 0 := by
    have hjz1 : (j : Int) < Sh.size (ins s k 1) := by omega
    obtain ⟨_, hl2, hw2, _⟩ := placeOf_of hjz1
    refine index_inj hr1 hl2 hw2 hl1 hw1 ?_
    rw [index_placeOf hjz1, Sh.index_of hr1 hl1 hw1, Sh.hor_lin hl1, lin_ins hpl hk, ← Sh.hor_lin hpl, ← Sh.index_of (right_of h) hpl hpw, hpi]
  rw [hP, addP_ax (by rw [ins_length _ (by omega), hpl])]
  have hadd : addAx (ins p k 0) k i = ins p k i := by
    rw [addAx, List.getD_eq_getElem?_getD, ins_at (by omega), if_neg (by omega), if_pos rfl]
    show (ins p k 0).set k (0 + i) = _
    rw [Int.zero_add, ins_set (by omega)]
  rw [hadd]
  have hw2 := within_ins (m := m) (i := i) hpl hpw hk h0 him
  have hl2 : (ins p k i).length = (ins s k m).length := by rw [ins_length _ (by omega), ins_length _ hk, hpl]
  obtain ⟨q, hq, hqz, hqp⟩ := index_of_place hro hl2 hw2
  refine (num_of hq ?_).symm
  rw [spD, gen_at (by omega), hqp, spP_ins hpl hk]
  congr 1
  exact num_of hpi hv
end Go.Proofs.Ytiigbkjkmfjhcaa
