/- Where the paths of package axes lead: plain mathematics. No Go in it. -/
import Derived.Test.YtiigbkjkmfjhcaaAxB
namespace Go.Proofs.Ytiigbkjkmfjhcaa
open Go.RowKit

namespace Sh
theorem sm_nil_l (ws : List Int) : sm [] ws = 0 := by simp [sm]
theorem sm_nil_r (ps : List Int) : sm ps [] = 0 := by simp [sm]
theorem foldl_add_ (l : List (Int × Int)) : ∀ a : Int, l.foldl (fun a x => a + x.1 * x.2) a = a + l.foldl (fun a x => a + x.1 * x.2) 0 := by
  induction l with
  | nil => intro a; simp
  | cons x l ih =>
    intro a
    rw [List.foldl_cons, List.foldl_cons, ih, ih (0 + x.1 * x.2)]
    omega
theorem sm_cons (x y : Int) (ps ws : List Int) : sm (x :: ps) (y :: ws) = x * y + sm ps ws := by
  rw [sm, List.zip_cons_cons, List.foldl_cons, foldl_add_, sm]
  show 0 + x * y + _ = _
  omega
theorem sm_setR : ∀ {ps ws : List Int} {j : Nat} {x w : Int} (y : Int), ps[j]? = some x → ws[j]? = some w → sm ps (ws.set j y) = sm ps ws + x * (y - w)
  | [], _, _, _, _, _, h, _ => by simp at h
  | _ :: _, [], _, _, _, _, _, h => by simp at h
  | a :: ps, b :: ws, 0, x, w, y, h, g => by
    simp at h g; subst h; subst g
    rw [List.set_cons_zero, sm_cons, sm_cons, Int.mul_sub]; omega
  | a :: ps, b :: ws, j + 1, x, w, y, h, g => by
    rw [List.set_cons_succ, sm_cons, sm_cons, sm_setR y (by simpa using h) (by simpa using g)]; omega
theorem sm_zeroR : ∀ (ps : List Int) (n : Nat), sm ps (List.replicate n 0) = 0
  | [], n => sm_nil_l _
  | p :: ps, 0 => sm_nil_r _
  | p :: ps, n + 1 => by rw [List.replicate_succ, sm_cons, sm_zeroR ps n]; simp
theorem sm_zeroL : ∀ (n : Nat) (ws : List Int), sm (List.replicate n 0) ws = 0
  | 0, ws => sm_nil_l _
  | n + 1, [] => sm_nil_r _
  | n + 1, w :: ws => by rw [List.replicate_succ, sm_cons, sm_zeroL n ws]; simp
theorem sm_bd : ∀ {ps ws : List Int}, (∀ x ∈ ps, 0 ≤ x ∧ x ≤ 64) → (∀ x ∈ ws, 0 ≤ x ∧ x ≤ 1048576) → 0 ≤ sm ps ws ∧ sm ps ws ≤ 67108864 * ps.length
  | [], ws, _, _ => by rw [sm_nil_l]; simp
  | _ :: _, [], _, _ => by rw [sm_nil_r]; simp; omega
  | p :: ps, w :: ws, h, g => by
    rw [sm_cons]
    have h1 := sm_bd (ps := ps) (ws := ws) (fun x hx => h x (by simp [hx])) (fun x hx => g x (by simp [hx]))
    have hp := h p (by simp)
    have hw := g w (by simp)
    have h2 : 0 ≤ p * w := Int.mul_nonneg hp.1 hw.1
    have h3 : p * w ≤ 64 * w := Int.mul_le_mul_of_nonneg_right hp.2 hw.1
    rw [List.length_cons]
    omega
theorem strides_bd {s : List Int} (hr : right s = true) : ∀ x ∈ strides s, 0 ≤ x ∧ x ≤ 1048576 := by
  intro x hx
  obtain ⟨k, hk⟩ := List.getElem?_of_mem hx
  have hl : k < s.length := by have := (List.getElem?_eq_some_iff.1 hk).1; rwa [strides_length] at this
  rw [strides_at (List.getElem?_eq_getElem hl)] at hk
  injection hk with hk; subst hk
  have h := right_iff.1 hr
  exact pd_small h.2.1 h.1 _
end Sh

theorem ix_sm {s p : List Int} (hr : Sh.right s = true) (hl : p.length = s.length) (hw : Sh.within s p = true) : Sh.index s p = Sh.sm p (Sh.strides s) := by
  rw [Sh.index_of hr hl hw, Sh.hor_lin hl, Sh.sm_lin hl]
theorem gen_congr {n : Nat} {f g : Nat → Int} (h : ∀ i, i < n → f i = g i) : gen n f = gen n g := by
  unfold gen
  exact List.map_congr_left fun i hi => h i (List.mem_range.1 hi)
theorem scat_congr {o d : List Int} {ix iy : Nat → Nat} : ∀ {n : Nat}, (∀ i, i < n → ix i = iy i) → scat o d ix n = scat o d iy n
  | 0, _ => rfl
  | n + 1, h => by
    have h1 := scat_congr (o := o) (d := d) (n := n) fun i hi => h i (by omega)
    unfold scat at h1 ⊢
    rw [List.range_succ, List.foldl_append, List.foldl_append, h1]
    simp [h n (by omega)]

/-- Where each place leads. -/
def pathP (s f st : List Int) (i : Nat) : Int := Sh.sm (addP (Sh.placeOf s i) f) st
def pathL (s f st : List Int) : List Int := gen (Sh.size s).toNat (pathP s f st)
def takeD (d z f st : List Int) : List Int := gen (Sh.size z).toNat fun i => d.getD (pathP z f st i).toNat 0
/-- Each path leads to a number. -/
def Leads (z f st : List Int) (n : Nat) : Prop := ∀ i : Nat, (i : Int) < Sh.size z → 0 ≤ pathP z f st i ∧ pathP z f st i < n
def Near (f : List Int) : Prop := ∀ x ∈ f, 0 ≤ x ∧ x ≤ 32
def Steps (st : List Int) : Prop := ∀ x ∈ st, 0 ≤ x ∧ x ≤ 1048576

theorem cut_right_z : ∀ {s f z : List Int}, cutOk s f z = true → (∀ x ∈ s, 0 ≤ x ∧ x ≤ 32) → 0 ≤ Sh.pd z ∧ Sh.pd z ≤ Sh.pd s ∧ (∀ x ∈ z, 0 ≤ x ∧ x ≤ 32) ∧ (∀ x ∈ f, 0 ≤ x ∧ x ≤ 32)
  | [], [], [], _, _ => by simp [Sh.pd]
  | n :: s, x :: f, y :: z, h, hd => by
    simp only [cutOk, Bool.and_eq_true, decide_eq_true_eq] at h
    obtain ⟨h1, h2, h3, h4⟩ := cut_right_z h.2 fun x hx => hd x (by simp [hx])
    have hn := hd n (by simp)
    refine ⟨?_, ?_, ?_, ?_⟩
    · rw [Sh.pd]; exact Int.mul_nonneg (by omega) h1
    · rw [Sh.pd, Sh.pd]; exact Int.mul_le_mul (by omega) h2 h1 (by omega)
    · intro u hu
      rcases List.mem_cons.1 hu with rfl | hu
      · omega
      · exact h3 u hu
    · intro u hu
      rcases List.mem_cons.1 hu with rfl | hu
      · omega
      · exact h4 u hu
  | [], _ :: _, _, h, _ => by simp [cutOk] at h
  | [], [], _ :: _, h, _ => by simp [cutOk] at h
  | _ :: _, [], _, h, _ => by simp [cutOk] at h
  | _ :: _, _ :: _, [], h, _ => by simp [cutOk] at h
theorem cut_fine {s f z : List Int} (hr : Sh.right s = true) (h : cutOk s f z = true) : Sh.right z = true ∧ Near f := by
  have hs := Sh.right_iff.1 hr
  obtain ⟨h1, h2, h3, h4⟩ := cut_right_z h hs.2.1
  refine ⟨Sh.right_iff.2 ⟨by rw [(cutOk_len h).2]; exact hs.1, h3, ?_⟩, h4⟩
  have := hs.2.2
  rw [Sh.pr_pd] at this ⊢
  omega
theorem cut_lead {s d f z : List Int} (h : tenRight s d = true) (g : cutOk s f z = true) : Leads z f (Sh.strides s) d.length ∧ cutD s d f z = takeD d z f (Sh.strides s) := by
  have hr := right_of h
  have key : ∀ i : Nat, (i : Int) < Sh.size z → Sh.index s (addP (Sh.placeOf z i) f) = pathP z f (Sh.strides s) i := fun i hi => by
    obtain ⟨hl, hw⟩ := cut_within g hi
    exact ix_sm hr hl hw
  refine ⟨fun i hi => ?_, gen_congr fun i hi => ?_⟩
  · obtain ⟨hl, hw⟩ := cut_within g hi
    have := index_lt hr hl hw
    rw [key i hi] at this
    have := len_right h
    omega
  · rw [num, key i (by omega)]

/-! Turn. -/
theorem setAll_miss {f a p : List Int} {m : Nat} : ∀ {k : Nat}, k ≤ a.length → k ≤ p.length → (∀ j x, j < k → a[j]? = some x → x.toNat ≠ m) → (setAll f a p k)[m]? = f[m]?
  | 0, _, _, _ => rfl
  | k + 1, h1, h2, h => by
    obtain ⟨x, hx⟩ := getElem_of (l := a) (k := k) (by omega)
    obtain ⟨y, hy⟩ := getElem_of (l := p) (k := k) (by omega)
    rw [← setAll_step hx hy, List.getElem?_set, if_neg (h k x (by omega) hx)]
    exact setAll_miss (by omega) (by omega) fun j x hj => h j x (by omega)
theorem turn_sm {s a p : List Int} (h : TuOk s a) (hp : p.length = a.length) : ∀ {k : Nat}, k ≤ a.length → Sh.lin s (setAll (List.replicate s.length 0) a p k) = Sh.sm (p.take k) ((turnS (Sh.strides s) a).take k)
  | 0, _ => by
    rw [setAll_zero, List.take_zero, Sh.sm_nil_l, ← Sh.sm_lin (by simp), Sh.sm_zeroL]
  | k + 1, hk => by
    obtain ⟨x, hx⟩ := getElem_of (l := a) (k := k) (by omega)
    obtain ⟨y, hy⟩ := getElem_of (l := p) (k := k) (by omega)
    have hxi := tu_in h hx
    obtain ⟨w, hw⟩ := getElem_of (l := Sh.strides s) (k := x.toNat) (by rw [Sh.strides_length]; exact hxi.2)
    have h0 : (setAll (List.replicate s.length 0) a p k)[x.toNat]? = some 0 := by
      rw [setAll_miss (by omega) (by omega), List.getElem?_replicate, if_pos hxi.2]
      intro j z hj hz e
      have := tu_in h hz
      obtain rfl : z = x := by omega
      have := tu_inj h hz hx
      omega
    rw [← setAll_step hx hy, Sh.lin_set h0 hw (by rw [setAll_length, List.length_replicate]), turn_sm h hp (by omega), Sh.sm_take hy (turnS_at hx hw)]
    simp
theorem addP_zeroL {p : List Int} {n : Nat} (hp : p.length = n) : addP p (List.replicate n 0) = p := addP_zero hp
theorem turn_lead {s d a : List Int} (h : tenRight s d = true) (g : TuOk s a) : Leads (turnS s a) (List.replicate a.length 0) (turnS (Sh.strides s) a) d.length ∧ turnD s d a = takeD d (turnS s a) (List.replicate a.length 0) (turnS (Sh.strides s) a) := by
  have hr := right_of h
  have key : ∀ i : Nat, (i : Int) < Sh.size (turnS s a) → Sh.index s (turnP s.length a (Sh.placeOf (turnS s a) i)) = pathP (turnS s a) (List.replicate a.length 0) (turnS (Sh.strides s) a) i := fun i hi => by
    obtain ⟨hl, hw⟩ := turn_within g hi
    obtain ⟨_, hpl, _, _⟩ := placeOf_of hi
    rw [turnS_length] at hpl
    rw [Sh.index_of hr hl hw, Sh.hor_lin hl, turnP, turn_sm g hpl (Nat.le_refl _), pathP, addP_zero hpl, ← hpl, List.take_of_length_le (Nat.le_refl _), List.take_of_length_le (by rw [turnS_length]; omega)]
  refine ⟨fun i hi => ?_, gen_congr fun i hi => ?_⟩
  · obtain ⟨hl, hw⟩ := turn_within g hi
    have := index_lt hr hl hw
    rw [key i hi] at this
    have := len_right h
    omega
  · rw [num, key i (by omega)]
theorem turn_steps {s a : List Int} (hr : Sh.right s = true) : Steps (turnS (Sh.strides s) a) := by
  intro x hx
  obtain ⟨k, hk⟩ := List.getElem?_of_mem hx
  simp only [turnS, List.getElem?_map, Option.map_eq_some_iff] at hk
  obtain ⟨y, _, rfl⟩ := hk
  rw [List.getD_eq_getElem?_getD]
  cases e : (Sh.strides s)[y.toNat]? with
  | none => simp
  | some z => exact Sh.strides_bd hr z (List.mem_of_getElem? e)
theorem near_zero (n : Nat) : Near (List.replicate n 0) := by
  intro x hx
  have := List.eq_of_mem_replicate hx
  omega

/-! Spread. -/
theorem sp_lt {s o a : List Int} (h : SpOk s o a) : ∀ {k j : Nat} {x y : Int}, j < k → a[j]? = some x → a[k]? = some y → x < y
  | 0, _, _, _, hj, _, _ => absurd hj (by omega)
  | k + 1, j, x, y, hj, hx, hy => by
    have hk : k + 1 < a.length := (List.getElem?_eq_some_iff.1 hy).1
    obtain ⟨z, hz⟩ := getElem_of (l := a) (k := k) (by omega)
    obtain ⟨u, hu⟩ := getElem_of (l := s) (k := k + 1) (by rw [← h.1]; exact hk)
    have h1 := (h.2 (k + 1) y u hy hu).2.2.1 z (by omega) hz
    rcases Nat.lt_or_ge j k with h' | h'
    · have := sp_lt h h' hx hz
      omega
    · obtain rfl : j = k := by omega
      rw [hx] at hz; injection hz with hz; omega
theorem sp_sm {s o a p w : List Int} (h : SpOk s o a) (hp : p.length = o.length) (hw : w.length = a.length) : ∀ {k : Nat}, k ≤ a.length → Sh.sm p (setAll (List.replicate o.length 0) a w k) = Sh.sm ((spP p a).take k) (w.take k)
  | 0, _ => by rw [setAll_zero, Sh.sm_zeroR, List.take_zero, Sh.sm_nil_l]
  | k + 1, hk => by
    obtain ⟨x, hx⟩ := getElem_of (l := a) (k := k) (by omega)
    obtain ⟨y, hy⟩ := getElem_of (l := w) (k := k) (by omega)
    have hxi := sp_in h hx
    obtain ⟨u, hu⟩ := getElem_of (l := p) (k := x.toNat) (by omega)
    have h0 : (setAll (List.replicate o.length 0) a w k)[x.toNat]? = some 0 := by
      rw [setAll_miss (by omega) (by omega), List.getElem?_replicate, if_pos hxi.2]
      intro j z hj hz e
      have := sp_in h hz
      have := sp_lt h hj hz hx
      omega
    rw [← setAll_step hx hy, Sh.sm_setR y hu h0, sp_sm h hp hw (by omega), Sh.sm_take (spP_at hx hu) hy]
    simp
def spSt (s o a : List Int) : List Int := setAll (List.replicate o.length 0) a (Sh.strides s) a.length
theorem spSt_length (s o a : List Int) : (spSt s o a).length = o.length := by rw [spSt, setAll_length, List.length_replicate]
theorem sp_lead {s d o a : List Int} (h : tenRight s d = true) (g : SpOk s o a) : Leads o (List.replicate o.length 0) (spSt s o a) d.length ∧ spD s d o a = takeD d o (List.replicate o.length 0) (spSt s o a) := by
  have hr := right_of h
  have key : ∀ i : Nat, (i : Int) < Sh.size o → Sh.index s (spP (Sh.placeOf o i) a) = pathP o (List.replicate o.length 0) (spSt s o a) i := fun i hi => by
    obtain ⟨hl, hw⟩ := sp_within g hi
    obtain ⟨_, hpl, _, _⟩ := placeOf_of hi
    rw [ix_sm hr hl hw, pathP, addP_zero hpl, spSt, sp_sm g hpl (by rw [Sh.strides_length, g.1]) (Nat.le_refl _), List.take_of_length_le (by rw [spP_length]; exact Nat.le_refl _), List.take_of_length_le (by rw [Sh.strides_length, g.1]; exact Nat.le_refl _)]
  refine ⟨fun i hi => ?_, gen_congr fun i hi => ?_⟩
  · obtain ⟨hl, hw⟩ := sp_within g hi
    have := index_lt hr hl hw
    rw [key i hi] at this
    have := len_right h
    omega
  · rw [num, key i (by omega)]
theorem setAll_mem {f a p : List Int} {P : Int → Prop} (h0 : ∀ x ∈ f, P x) (hp : ∀ x ∈ p, P x) : ∀ {k : Nat}, k ≤ a.length → k ≤ p.length → ∀ x ∈ setAll f a p k, P x
  | 0, _, _ => h0
  | k + 1, h1, h2 => by
    obtain ⟨x, hx⟩ := getElem_of (l := a) (k := k) (by omega)
    obtain ⟨y, hy⟩ := getElem_of (l := p) (k := k) (by omega)
    rw [← setAll_step hx hy]
    intro z hz
    rcases List.mem_or_eq_of_mem_set hz with hz | rfl
    · exact setAll_mem h0 hp (by omega) (by omega) z hz
    · exact hp z (List.mem_of_getElem? hy)
theorem sp_steps {s o a : List Int} (hr : Sh.right s = true) (g : SpOk s o a) : Steps (spSt s o a) := by
  refine setAll_mem (fun x hx => ?_) (Sh.strides_bd hr) (Nat.le_refl _) (by rw [Sh.strides_length, g.1]; exact Nat.le_refl _)
  have := List.eq_of_mem_replicate hx
  omega

/-! Pad, Join: what is laid over. -/
def layD (o d s f z : List Int) (k : Nat) : List Int := scat o d (fun i => (pathP s f (Sh.strides z) i).toNat) k
theorem layD_step {o d s f z : List Int} {k : Nat} {x : Int} (h : d[k]? = some x) : (layD o d s f z k).set (pathP s f (Sh.strides z) k).toNat x = layD o d s f z (k + 1) := scat_step h
theorem layD_length (o d s f z : List Int) (k : Nat) : (layD o d s f z k).length = o.length := scat_length ..
theorem pad_lead {s d lo hi : List Int} (h : tenRight s d = true) (g : PadOk s lo hi) (k : Sh.right (padS s lo hi) = true) (n : Int) :
    Leads s lo (Sh.strides (padS s lo hi)) (Sh.size (padS s lo hi)).toNat ∧ padD s d lo hi n = layD (List.replicate (Sh.size (padS s lo hi)).toNat n) d s lo (padS s lo hi) d.length ∧ Near lo := by
  have key : ∀ i : Nat, (i : Int) < Sh.size s → Sh.index (padS s lo hi) (addP (Sh.placeOf s i) lo) = pathP s lo (Sh.strides (padS s lo hi)) i := fun i hi => by
    obtain ⟨hl, hw⟩ := pad_within g hi
    exact ix_sm k hl hw
  refine ⟨fun i hi => ?_, scat_congr fun i hi => ?_, fun x hx => ?_⟩
  · obtain ⟨hl, hw⟩ := pad_within g hi
    have := index_lt k hl hw
    rw [key i hi] at this
    omega
  · show (Sh.index _ _).toNat = _
    rw [key i (by have := len_right h; omega)]
  · obtain ⟨i, hi'⟩ := List.getElem?_of_mem hx
    obtain ⟨y, hy⟩ := getElem_of (l := hi) (k := i) (by have := (List.getElem?_eq_some_iff.1 hi').1; have := g.1; have := g.2.1; omega)
    have := g.2.2 i x y hi' hy
    omega
def atAx (n ax : Nat) (h : Int) : List Int := (List.replicate n 0).set ax h
theorem atAx_length (n ax : Nat) (h : Int) : (atAx n ax h).length = n := by simp [atAx]
theorem join_lead {ax : Nat} {l : TL} (h : allRight l) (hk : JoinOk ax l) (hx : ax < (head1 l).length) {i : Nat} {t : List Int × List Int} (ht : l[i]? = some t) :
    Leads t.1 (atAx (joinS ax l).length ax (tot ax (l.take i))) (Sh.strides (joinS ax l)) (Sh.size (joinS ax l)).toNat ∧ joinUp ax l (i + 1) = layD (joinUp ax l i) t.2 t.1 (atAx (joinS ax l).length ax (tot ax (l.take i))) (joinS ax l) t.2.length ∧ Near (atAx (joinS ax l).length ax (tot ax (l.take i))) ∧ (joinS ax l).length = t.1.length := by
  have hfl := (hk.1 t (List.mem_of_getElem? ht)).1
  have hlen : (joinS ax l).length = t.1.length := by rw [joinS_length, hfl]
  have key : ∀ k : Nat, (k : Int) < Sh.size t.1 → Sh.index (joinS ax l) (addAx (Sh.placeOf t.1 k) ax (tot ax (l.take i))) = pathP t.1 (atAx (joinS ax l).length ax (tot ax (l.take i))) (Sh.strides (joinS ax l)) k := fun k hkz => by
    obtain ⟨hl, hw⟩ := join_within h hk hx ht hkz
    obtain ⟨_, hpl, _, _⟩ := placeOf_of hkz
    rw [ix_sm hk.2 hl hw, pathP, atAx, addP_ax (by omega)]
  have hb := all_tot h ax i
  have hb2 : tot ax l ≤ 32 := (Sh.right_iff.1 hk.2).2.1 _ (by rw [joinS]; exact List.mem_set hx _) |>.2
  refine ⟨fun k hkz => ?_, ?_, fun x hx' => ?_, hlen⟩
  · obtain ⟨hl, hw⟩ := join_within h hk hx ht hkz
    have := index_lt hk.2 hl hw
    rw [key k hkz] at this
    omega
  · rw [joinUp_step ht]
    refine scat_congr fun k hkl => ?_
    show (Sh.index _ _).toNat = _
    rw [key k (by have := len_right (h t (List.mem_of_getElem? ht)); omega)]
  · rcases List.mem_or_eq_of_mem_set hx' with hz | rfl
    · have := List.eq_of_mem_replicate hz; omega
    · omega
end Go.Proofs.Ytiigbkjkmfjhcaa
