/- 'append(s, ys...)': a list that is read, behind a list of the call's own. No program is named. -/
import Derived.Test.YthhfjbhopenchaaKit
import Derived.Laws.CopyOwn
import Derived.Maps.AppendAt
import Derived.Deep.RegionLaw
import Derived.Deep.DeepCutAuto
namespace Go.Proofs.Ythhfjbhopenchaa
open Go.RowKit

section
variable {w w' : World} {A : Option Addr} {n : Nat} {xs : List Int}
theorem Ints.nil_addr (h : Ints w none n xs) : n = 0 ∧ xs = [] := by
  have h0 : n = 0 := by
    rcases Nat.eq_zero_or_pos n with h0 | h0
    · exact h0
    · obtain ⟨_, e, _⟩ := h.2.2.2 h0; cases e
  exact ⟨h0, List.eq_nil_of_length_eq_zero (by rw [h.1, h0])⟩
theorem Ints.take (h : Ints w A n xs) {k : Nat} (hk : k ≤ n) : Ints w A k (xs.take k) := by
  refine ⟨by rw [List.length_take, h.1]; omega, by have := h.le; omega, fun x hx => h.fit x (List.mem_of_mem_take hx), fun h0 => ?_⟩
  obtain ⟨ad, e, hb, hc⟩ := h.2.2.2 (by omega)
  refine ⟨ad, e, hb, fun j x hj => hc j x ?_⟩
  rw [List.getElem?_take] at hj
  split at hj
  · exact hj
  · cases hj
/-- A cut from k on: at its capacity's end the cut keeps the old address. -/
theorem Ints.drop (h : Ints w A n xs) {k c : Nat} (hk : k ≤ n) (hc : n ≤ c) : Ints w (if c = k then A else A.map (·.add k)) (n - k) (xs.drop k) := by
  refine ⟨by rw [List.length_drop, h.1], by have := h.le; omega, fun x hx => h.fit x (List.mem_of_mem_drop hx), fun h0 => ?_⟩
  obtain ⟨ad, rfl, hb, hcell⟩ := h.2.2.2 (by omega)
  rw [if_neg (by omega)]
  refine ⟨ad.add k, rfl, by rw [block_of_add]; exact hb, fun j x hj => ?_⟩
  rw [add_of_add]
  exact hcell _ _ (by rw [← hj, List.getElem?_drop])
end

variable {P : Program}
theorem run_append_ints {w : World} {t ty e : TypeId} (ht : P.underlying t = some (.slice e))
    (hinfo : (P.info? e).map (fun i => (i.zero, i.size, i.bytes)) = some (some (.int .i64 0), 1, 8))
    {base : Nat} {v : Value} {n : Nat} {xs : List Int} (hown : OwnS w base e v n xs) (hb : base ≤ w.heap.size)
    {A : Option Addr} {m c : Nat} {ys : List Int} (hy : Ints w A m ys) (hn : n + m ≤ 17592186044000) :
    ∃ v' w', (Builtin.append_ #[t, t] ty #[v, .slice A m c]).run P w = .ok v' w' ∧ OwnS w' base e v' (n + m) (xs ++ ys) ∧ w.grownBy w' v.ownBlock ∧ (v'.ownBlock = v.ownBlock ∨ v'.ownBlock = some w.heap.size) := by
  obtain ⟨i, hi, hz0, hz1, hz2⟩ := info_parts hinfo
  have fits : ∀ z ∈ xs ++ ys, Fits z := fun z hz => by
    rcases List.mem_append.1 hz with hz | hz
    · exact hown.2.1 z hz
    · exact hy.fit z hz
  cases A with
  | none =>
    obtain ⟨rfl, rfl⟩ := hy.nil_addr
    refine ⟨v, w, ?_, by simpa using hown, World.grownBy.refl _ _, .inl rfl⟩
    rcases hown.1.2 with ⟨rfl, rfl⟩ | ⟨g, cap, cur, rfl, _, _, hnc, _⟩
    · simp [Builtin.append_, run_underlying ht, sizeOf, typeInfo, hi, Builtin.lenOf, Builtin.firstCells]
    · simp [Builtin.append_, run_underlying ht, sizeOf, typeInfo, hi, Builtin.lenOf, Builtin.firstCells, hnc, storeCells]
  | some ad =>
    have hcells : ∀ j u, (ys.map (Value.int .i64))[j]? = some u → w.cell? (ad.add j) = some u := by
      intro j u hu
      rw [List.getElem?_map, Option.map_eq_some_iff] at hu
      obtain ⟨x, hx, rfl⟩ := hu
      exact hy.get hx
    obtain ⟨v', w', hr, h2, h3, _, h5⟩ := run_append_own_at (P := P) w base t ty e i (.int .i64 0) 1 8 ht hi hz0 hz1 hz2 rfl (by decide) v n _ hown.1 ad m c (ys.map (Value.int .i64)) (by simp [hy.len]) hcells (fun u hu => by
      rw [List.mem_map] at hu; obtain ⟨x, _, rfl⟩ := hu; rfl) (by unfold maxLen; omega) (by omega) hb
    exact ⟨v', w', hr, ⟨by rw [List.map_append]; exact h2, fits, by omega⟩, h3, h5⟩

theorem wp_append_ints {w : World} {o : Oper} {a : Act} {K : Act → World → Prop} {Q : Exit → Act → World → Prop} (s y : Operand) (t e : TypeId)
    (ho : o.op = .call { callee := .builtin .append, args := #[s, y], argTypes := #[t, t] }) (ht : P.underlying t = some (.slice e))
    (hinfo : (P.info? e).map (fun i => (i.zero, i.size, i.bytes)) = some (some (.int .i64 0), 1, 8))
    (base : Nat) (v : Value) (n : Nat) (xs : List Int) (hs : a.eval s = v) (hown : OwnS w base e v n xs) (hb : base ≤ w.heap.size)
    (A : Option Addr) (m c : Nat) (ys : List Int) (hx : a.eval y = .slice A m c) (hy : Ints w A m ys) (hn : n + m ≤ 17592186044000)
    (h : ∀ v' w', OwnS w' base e v' (n + m) (xs ++ ys) → w.grownBy w' v.ownBlock → (v'.ownBlock = v.ownBlock ∨ v'.ownBlock = some w.heap.size) → K (a.put o.dst v') w') : o.wp P a w K Q := by
  obtain ⟨v', w', hr, h2, h3, h4⟩ := run_append_ints (P := P) (ty := o.type) (c := c) ht hinfo hown hb hy hn
  unfold Oper.wp execOp
  simp only [ho, resolve, invoke, builtin, Sem.run_bind, Sem.run_pure, Result.andThen_ok, List.map_toArray, List.map_cons, List.map_nil, hs, hx, hr]
  exact h v' w' h2 h3 h4

theorem wpList_append_ints {w : World} {ops : Array Oper} {rest : List Oper} {o : Oper} {a : Act} {Q : Exit → Act → World → Prop} (hgd : o.guard = none) (s y : Operand) (t e : TypeId)
    (ho : o.op = .call { callee := .builtin .append, args := #[s, y], argTypes := #[t, t] }) (ht : P.underlying t = some (.slice e))
    (hinfo : (P.info? e).map (fun i => (i.zero, i.size, i.bytes)) = some (some (.int .i64 0), 1, 8))
    (base : Nat) (v : Value) (n : Nat) (xs : List Int) (hs : a.eval s = v) (hown : OwnS w base e v n xs) (hb : base ≤ w.heap.size)
    (A : Option Addr) (m c : Nat) (ys : List Int) (hx : a.eval y = .slice A m c) (hy : Ints w A m ys) (hn : n + m ≤ 17592186044000)
    (h : ∀ v' w', OwnS w' base e v' (n + m) (xs ++ ys) → w.grownBy w' v.ownBlock → (v'.ownBlock = v.ownBlock ∨ v'.ownBlock = some w.heap.size) → wpList P ops Q rest (a.put o.dst v') w') : wpList P ops Q (o :: rest) a w :=
  wpList_plain hgd fun _ hK => wp_append_ints s y t e ho ht hinfo base v n xs hs hown hb A m c ys hx hy hn fun v' w' h2 h3 h4 => hK _ _ (h v' w' h2 h3 h4)

theorem step_append_ints {w : World} {ops : Array Oper} {o : Oper} {a : Act} {K : Act → World → Prop} {Q : Exit → Act → World → Prop} {E : Prop} (hgd : o.guard = none) (s y : Operand) (t e : TypeId)
    (ho : o.op = .call { callee := .builtin .append, args := #[s, y], argTypes := #[t, t] }) (ht : P.underlying t = some (.slice e))
    (hinfo : (P.info? e).map (fun i => (i.zero, i.size, i.bytes)) = some (some (.int .i64 0), 1, 8))
    (base : Nat) (v : Value) (n : Nat) (xs : List Int) (hs : a.eval s = v) (hown : OwnS w base e v n xs) (hb : base ≤ w.heap.size)
    (A : Option Addr) (m c : Nat) (ys : List Int) (hx : a.eval y = .slice A m c) (hy : Ints w A m ys) (hn : n + m ≤ 17592186044000)
    (h : ∀ v' w', OwnS w' base e v' (n + m) (xs ++ ys) → w.grownBy w' v.ownBlock → (v'.ownBlock = v.ownBlock ∨ v'.ownBlock = some w.heap.size) → K (a.put o.dst v') w') :
    if Region.wanted o (yielded ops a.tmps) = true then Oper.wp P o a w K Q else E := by
  have hw : Region.wanted o (yielded ops a.tmps) = true := by simp [Region.wanted, hgd]
  rw [if_pos hw]
  exact wp_append_ints s y t e ho ht hinfo base v n xs hs hown hb A m c ys hx hy hn h

/-- '[]int{}': a new list of no numbers. -/
theorem own_empty (w : World) {base : Nat} (e : TypeId) (hb : base ≤ w.heap.size) : OwnS (w.alloc (.cells #[] e)) base e (.slice (some ⟨w.heap.size, 0, none⟩) 0 0) 0 [] :=
  ⟨World.ownsRow_lit w #[] 0 hb (Nat.zero_le _) rfl, by simp, by omega⟩

/-- A slice of no length and no room: nil, or '[]T{}' in a block of its own. -/
def Hollow (w : World) (base : Nat) (e : TypeId) (v : Value) : Prop :=
  v = .slice none 0 0 ∨ ∃ g, v = .slice (some ⟨g, 0, none⟩) 0 0 ∧ base ≤ g ∧ w.heap[g]? = some (.cells #[] e (0, 0))
theorem Hollow.nil_ (w : World) (base : Nat) (e : TypeId) : Hollow w base e (.slice none 0 0) := .inl rfl
theorem Hollow.below {w w' : World} {base : Nat} {e : TypeId} {v : Value} (h : Hollow w base e v) (hb : Below w.heap.size w w') : Hollow w' base e v := by
  rcases h with rfl | ⟨g, rfl, hg, hh⟩
  · exact .inl rfl
  · have : g < w.heap.size := by
      rcases Nat.lt_or_ge g w.heap.size with hl | hl
      · exact hl
      · rw [Array.getElem?_eq_none hl] at hh; cases hh
    exact .inr ⟨g, rfl, hg, (hb.block g this).trans hh⟩
theorem Hollow.new (w : World) {base : Nat} (e : TypeId) (hb : base ≤ w.heap.size) : Hollow (w.alloc (.cells #[] e)) base e (.slice (some ⟨w.heap.size, 0, none⟩) 0 0) :=
  .inr ⟨_, rfl, hb, heap_alloc_new w _⟩
theorem Hollow.own {w : World} {base : Nat} {e : TypeId} {v : Value} (h : Hollow w base e v) : OwnS w base e v 0 [] := by
  rcases h with rfl | ⟨g, rfl, hg, hh⟩
  · exact OwnS.nil_ _ _ _
  · exact ⟨⟨rfl, .inr ⟨g, 0, #[], rfl, hg, hh, Nat.le_refl _, Nat.zero_le _, rfl, rfl⟩⟩, by simp, by omega⟩

/-- 'append([]T{}, ys...)': a new list; nothing that was there changes. -/
theorem run_append_fresh {w : World} {t ty e : TypeId} (ht : P.underlying t = some (.slice e))
    (hinfo : (P.info? e).map (fun i => (i.zero, i.size, i.bytes)) = some (some (.int .i64 0), 1, 8))
    {base : Nat} {v : Value} (hv : Hollow w base e v) (hb : base ≤ w.heap.size)
    {A : Option Addr} {m c : Nat} {ys : List Int} (hy : Ints w A m ys) (hn : m ≤ 17592186044000) :
    ∃ v' w', (Builtin.append_ #[t, t] ty #[v, .slice A m c]).run P w = .ok v' w' ∧ OwnS w' base e v' m ys ∧ Below w.heap.size w w' := by
  by_cases hm : m = 0
  · subst hm
    have hys : ys = [] := List.eq_nil_of_length_eq_zero hy.len
    subst hys
    obtain ⟨i, hi, hz0, hz1, hz2⟩ := info_parts hinfo
    refine ⟨v, w, ?_, hv.own, Below.refl _ _⟩
    rcases hv with rfl | ⟨g, rfl, _, _⟩ <;> cases A <;>
      simp [Builtin.append_, run_underlying ht, sizeOf, typeInfo, hi, Builtin.lenOf, Builtin.firstCells, loadCells, loadCellsFrom, storeCells]
  · obtain ⟨ad, rfl, _, _⟩ := hy.2.2.2 (by omega)
    obtain ⟨i, hi, hz0, hz1, hz2⟩ := info_parts hinfo
    have hcells : ∀ j u, (ys.map (Value.int .i64))[j]? = some u → w.cell? (ad.add j) = some u := by
      intro j u hu
      rw [List.getElem?_map, Option.map_eq_some_iff] at hu
      obtain ⟨x, hx, rfl⟩ := hu
      exact hy.get hx
    have hl : (ys.map (Value.int .i64)).length = m * i.size := by rw [hz1]; simp [hy.len]
    have key : ∀ cap, m ≤ cap → cap ≤ maxLen → OwnS (w.drew.alloc (.cells ((ys.map (Value.int .i64)).toArray ++ Builtin.zeroCells (Value.int .i64 0).cells (cap - m)) e)) base e (.slice (some ⟨w.heap.size, 0, none⟩) m cap) m ys := by
      intro cap hc1 hc2
      refine ⟨⟨by simp [hy.len], .inr ⟨w.heap.size, cap, _, rfl, hb, heap_alloc_new w.drew _, hc1, hc2, ?_, ?_⟩⟩, hy.fit, by unfold maxLen at hc2; omega⟩
      · rw [Array.size_append, size_zeroCells]
        simp only [List.size_toArray, List.length_map, hy.len]
        show m + (cap - m) * 1 = cap * 1
        omega
      · rw [Array.toList_append, List.take_append_of_le_length (by simp [hy.len]), List.take_of_length_le (by simp [hy.len])]
    have hB : ∀ o, Below w.heap.size w (w.drew.alloc o) := fun o => (Below.refl w.heap.size w).drew.alloc (Nat.le_refl _) o
    rcases hv with rfl | ⟨g, rfl, hbg, hh⟩
    · have hr := run_append_nil (P := P) w t ty e i _ ht hi hz0 ad m c (ys.map (Value.int .i64)) hl hcells (by omega) (by omega) (by rw [hz2]; omega)
      exact ⟨_, _, hr, key _ (grownCap_ge w m 0 e) (grownCap_le_maxLen w m 0 e (by unfold maxLen; omega)), hB _⟩
    · have hr := run_append_grow (P := P) w t ty e i _ ht hi hz0 ⟨g, 0, none⟩ 0 0 [] (by simp) (by simp) ad m c (ys.map (Value.int .i64)) hl hcells (by omega) (by omega) (growslice_fits (by omega) (by rw [hz2]; omega))
      simp only [Nat.zero_add, Array.empty_append] at hr
      exact ⟨_, _, hr, key _ (grownCap_ge w m 0 e) (grownCap_le_maxLen w m 0 e (by unfold maxLen; omega)), hB _⟩

theorem wp_append_fresh {w : World} {o : Oper} {a : Act} {K : Act → World → Prop} {Q : Exit → Act → World → Prop} (s y : Operand) (t e : TypeId)
    (ho : o.op = .call { callee := .builtin .append, args := #[s, y], argTypes := #[t, t] }) (ht : P.underlying t = some (.slice e))
    (hinfo : (P.info? e).map (fun i => (i.zero, i.size, i.bytes)) = some (some (.int .i64 0), 1, 8))
    (base : Nat) (v : Value) (hs : a.eval s = v) (hv : Hollow w base e v) (hb : base ≤ w.heap.size)
    (A : Option Addr) (m c : Nat) (ys : List Int) (hx : a.eval y = .slice A m c) (hy : Ints w A m ys) (hn : m ≤ 17592186044000)
    (h : ∀ v' w', OwnS w' base e v' m ys → Below w.heap.size w w' → K (a.put o.dst v') w') : o.wp P a w K Q := by
  obtain ⟨v', w', hr, h2, h3⟩ := run_append_fresh (P := P) (ty := o.type) (c := c) ht hinfo hv hb hy hn
  unfold Oper.wp execOp
  simp only [ho, resolve, invoke, builtin, Sem.run_bind, Sem.run_pure, Result.andThen_ok, List.map_toArray, List.map_cons, List.map_nil, hs, hx, hr]
  exact h v' w' h2 h3

theorem wpList_append_fresh {w : World} {ops : Array Oper} {rest : List Oper} {o : Oper} {a : Act} {Q : Exit → Act → World → Prop} (hgd : o.guard = none) (s y : Operand) (t e : TypeId)
    (ho : o.op = .call { callee := .builtin .append, args := #[s, y], argTypes := #[t, t] }) (ht : P.underlying t = some (.slice e))
    (hinfo : (P.info? e).map (fun i => (i.zero, i.size, i.bytes)) = some (some (.int .i64 0), 1, 8))
    (base : Nat) (v : Value) (hs : a.eval s = v) (hv : Hollow w base e v) (hb : base ≤ w.heap.size)
    (A : Option Addr) (m c : Nat) (ys : List Int) (hx : a.eval y = .slice A m c) (hy : Ints w A m ys) (hn : m ≤ 17592186044000)
    (h : ∀ v' w', OwnS w' base e v' m ys → Below w.heap.size w w' → wpList P ops Q rest (a.put o.dst v') w') : wpList P ops Q (o :: rest) a w :=
  wpList_plain hgd fun _ hK => wp_append_fresh s y t e ho ht hinfo base v hs hv hb A m c ys hx hy hn fun v' w' h2 h3 => hK _ _ (h v' w' h2 h3)

theorem step_append_fresh {w : World} {ops : Array Oper} {o : Oper} {a : Act} {K : Act → World → Prop} {Q : Exit → Act → World → Prop} {E : Prop} (hgd : o.guard = none) (s y : Operand) (t e : TypeId)
    (ho : o.op = .call { callee := .builtin .append, args := #[s, y], argTypes := #[t, t] }) (ht : P.underlying t = some (.slice e))
    (hinfo : (P.info? e).map (fun i => (i.zero, i.size, i.bytes)) = some (some (.int .i64 0), 1, 8))
    (base : Nat) (v : Value) (hs : a.eval s = v) (hv : Hollow w base e v) (hb : base ≤ w.heap.size)
    (A : Option Addr) (m c : Nat) (ys : List Int) (hx : a.eval y = .slice A m c) (hy : Ints w A m ys) (hn : m ≤ 17592186044000)
    (h : ∀ v' w', OwnS w' base e v' m ys → Below w.heap.size w w' → K (a.put o.dst v') w') :
    if Region.wanted o (yielded ops a.tmps) = true then Oper.wp P o a w K Q else E := by
  have hw : Region.wanted o (yielded ops a.tmps) = true := by simp [Region.wanted, hgd]
  rw [if_pos hw]
  exact wp_append_fresh s y t e ho ht hinfo base v hs hv hb A m c ys hx hy hn h

/-- Block g holds n slices of numbers. -/
def Lists (w : World) (g n : Nat) : Prop :=
  g < w.heap.size ∧ ∀ k, k < n → ∃ (A : Option Addr) (m c : Nat) (xs : List Int), w.cell? ⟨g, k, none⟩ = some (.slice A m c) ∧ m ≤ c ∧ Ints w A m xs
theorem Lists.below {w w' : World} {g n : Nat} (h : Lists w g n) (hb : Below w.heap.size w w') : Lists w' g n :=
  ⟨Nat.lt_of_lt_of_le h.1 hb.size, fun k hk => by
    obtain ⟨A, m, c, xs, hc, hm, hI⟩ := h.2 k hk
    exact ⟨A, m, c, xs, (hb.cell (p := ⟨g, k, none⟩) h.1).trans hc, hm, hI.below hb⟩⟩
/-- A value that is a slice of numbers. -/
def AList (w : World) (v : Value) : Prop := ∃ (A : Option Addr) (m c : Nat) (xs : List Int), v = .slice A m c ∧ m ≤ c ∧ Ints w A m xs
theorem lists_new (w : World) (cs : Array Value) (t : TypeId) (n : Nat) (hn : n = cs.size) (h : ∀ v ∈ cs.toList, AList w v) : Lists (w.alloc (.cells cs t)) w.heap.size n := by
  subst hn
  refine ⟨by simp, fun k hk => ?_⟩
  obtain ⟨A, m, c, xs, hv, hm, hI⟩ := h cs[k] (by simp)
  refine ⟨A, m, c, xs, ?_, hm, hI.alloc _⟩
  rw [World.cell?_alloc_at cs t _ k rfl, Array.getElem?_eq_getElem hk, hv]
theorem alist {w : World} {A : Option Addr} {m c : Nat} {xs : List Int} (h : Ints w A m xs) (hm : m ≤ c) : AList w (.slice A m c) := ⟨A, m, c, xs, rfl, hm, h⟩
theorem ints_fresh (w : World) (t : TypeId) (cs : Array Value) (xs : List Int) (hc : cs.toList = xs.map (Value.int .i64)) (hf : ∀ x ∈ xs, Fits x) (n : Nat) (hl : xs.length = n) (hn : n ≤ 1000) :
    Ints (w.alloc (.cells cs t)) (some ⟨w.heap.size, 0, none⟩) n xs := by
  refine ⟨hl, by omega, hf, fun _ => ⟨_, rfl, by simp, fun j x hj => ?_⟩⟩
  rw [Addr.add_lit, Nat.zero_add, World.cell?_alloc_at cs t _ j rfl, ← Array.getElem?_toList, hc, List.getElem?_map, hj]
  rfl
/-- 'copy(own, xs)', of one length: the row holds xs; no other block has changed. -/
theorem wpList_copy_ints {w : World} {ops : Array Oper} {rest : List Oper} {o : Oper} {a : Act} {Q : Exit → Act → World → Prop} (hgd : o.guard = none) (d s : Operand) (dT sT : TypeId)
    (ho : o.op = .call { callee := .builtin .copy, args := #[d, s], argTypes := #[dT, sT] }) (elem : TypeId) (hu : P.underlying dT = some (.slice elem)) (hsz : (P.info? elem).map (·.size) = some 1)
    {base : Nat} {e : TypeId} {g n c : Nat} {zs : List Int} (hO : Own w base e g n c zs) (hd : a.eval d = .slice (some ⟨g, 0, none⟩) n c)
    {A : Option Addr} {k : Nat} {xs : List Int} (hs : a.eval s = .slice A n k) (hI : Ints w A n xs)
    (h : ∀ w', Own w' base e g n c xs → w.grownBy w' (some g) → wpList P ops Q rest (a.put o.dst (.int .i64 n)) w') : wpList P ops Q (o :: rest) a w := by
  by_cases h0 : n = 0
  · subst h0
    refine wpList_copy_nothing hgd d s dT sT ho elem hu hsz _ _ 0 c 0 k hd hs rfl ?_
    have hx : xs = zs := by rw [List.eq_nil_of_length_eq_zero hI.len, List.eq_nil_of_length_eq_zero hO.len]
    exact h w (hx ▸ hO) (World.grownBy.refl _ _)
  · have hO' := hO
    rcases hO'.1 with ⟨hl, hh⟩
    rcases hh with ⟨h', _⟩ | ⟨g', c', cur, h', hb, hg, hnc, hcm, hcs, hct⟩
    · simp at h'
    · simp only [Value.slice.injEq, Option.some.injEq, Addr.mk.injEq, and_true, true_and] at h'
      obtain ⟨rfl, rfl⟩ := h'
      obtain ⟨ad, rfl, _, hcell⟩ := hI.2.2.2 (by omega)
      have hxl := hI.len
      have hcl : (xs.map (Value.int .i64)).length = Nat.min n n := by rw [List.length_map, hxl]; exact (Nat.min_self n).symm
      refine wpList_copy_own hgd d s dT sT ho elem hu hsz g 0 n c ad n k hd hs cur e hg (xs.map (Value.int .i64)) hcl
        (fun j v hv => by
          rw [List.getElem?_map, Option.map_eq_some_iff] at hv
          obtain ⟨x, hx, rfl⟩ := hv
          exact hcell j x hx) (by rw [List.length_map]; omega) (fun v hv => by
          rw [List.mem_map] at hv
          obtain ⟨x, _, rfl⟩ := hv
          rfl) ?_
      have e1 : goInt ((xs.map (Value.int .i64)).length : Nat) = Value.int .i64 n := by rw [List.length_map, hxl]; rfl
      rw [e1]
      refine h _ ⟨⟨by simp [hxl], .inr ⟨g, c, _, rfl, hb, setRow_heap w g cur _ e _ hg, hnc, hcm, ?_, ?_⟩⟩, hI.fit, hO.2.2⟩ ⟨rfl, rfl, rfl, by simp [World.setRow], fun j _ hj => setRow_other w g j _ (fun hh => hj (by rw [hh]))⟩
      · simp; omega
      · simp; rw [List.take_append_of_le_length (by simp; omega), List.take_of_length_le (by simp; omega)]

end Go.Proofs.Ythhfjbhopenchaa
