/- 'append(s, ys...)': a list that is read, behind a list of the call's own. No program is named. -/
import Derived.Test.YtjmioegagigpmaaKit
import Derived.Maps.AppendAt
import Derived.Deep.RegionLaw
import Derived.Deep.DeepCutAuto
namespace Go.Proofs.Ytjmioegagigpmaa
open Go.RowKit

section
variable {w w' : World} {A : Option Addr} {n : Nat} {xs : List Int}
theorem Ints.nil_addr (h : Ints w none n xs) : n = 0 ∧ xs = [] := by
  have h0 : n = 0 := by
    rcases Nat.eq_zero_or_pos n with h0 | h0
    · exact h0
    · obtain ⟨_, e, _⟩ := h.2.2.2 h0; cases e
  exact ⟨h0, List.eq_nil_of_length_eq_zero (by rw [h.1, h0])⟩
theorem Ints.take (h : Ints w A n xs) {k : Nat} (hk : k ≤ n) : Ints w A k (xs.take k) := by
  refine ⟨by rw [List.length_take, h.1]; omega, by have := h.le; omega, fun x hx => h.fit x (List.mem_of_mem_take hx), fun h0 => ?_⟩
  obtain ⟨ad, e, hb, hc⟩ := h.2.2.2 (by omega)
  refine ⟨ad, e, hb, fun j x hj => hc j x ?_⟩
  rw [List.getElem?_take] at hj
  split at hj
  · exact hj
  · cases hj
/-- A cut from k on: at its capacity's end the cut keeps the old address. -/
theorem Ints.drop (h : Ints w A n xs) {k c : Nat} (hk : k ≤ n) (hc : n ≤ c) : Ints w (if c = k then A else A.map (·.add k)) (n - k) (xs.drop k) := by
  refine ⟨by rw [List.length_drop, h.1], by have := h.le; omega, fun x hx => h.fit x (List.mem_of_mem_drop hx), fun h0 => ?_⟩
  obtain ⟨ad, rfl, hb, hcell⟩ := h.2.2.2 (by omega)
  rw [if_neg (by omega)]
  refine ⟨ad.add k, rfl, by rw [block_of_add]; exact hb, fun j x hj => ?_⟩
  rw [add_of_add]
  exact hcell _ _ (by rw [← hj, List.getElem?_drop])
end

variable {P : Program}
theorem run_append_ints {w : World} {t ty e : TypeId} (ht : P.underlying t = some (.slice e))
    (hinfo : (P.info? e).map (fun i => (i.zero, i.size, i.bytes)) = some (some (.int .i64 0), 1, 8))
    {base : Nat} {v : Value} {n : Nat} {xs : List Int} (hown : OwnS w base e v n xs) (hb : base ≤ w.heap.size)
    {A : Option Addr} {m c : Nat} {ys : List Int} (hy : Ints w A m ys) (hn : n + m ≤ 17592186044000) :
    ∃ v' w', (Builtin.append_ #[t, t] ty #[v, .slice A m c]).run P w = .ok v' w' ∧ OwnS w' base e v' (n + m) (xs ++ ys) ∧ w.grownBy w' v.ownBlock ∧ (v'.ownBlock = v.ownBlock ∨ v'.ownBlock = some w.heap.size) := by
  obtain ⟨i, hi, hz0, hz1, hz2⟩ := info_parts hinfo
  have fits : ∀ z ∈ xs ++ ys, Fits z := fun z hz => by
    rcases List.mem_append.1 hz with hz | hz
    · exact hown.2.1 z hz
    · exact hy.fit z hz
  cases A with
  | none =>
    obtain ⟨rfl, rfl⟩ := hy.nil_addr
    refine ⟨v, w, ?_, by simpa using hown, World.grownBy.refl _ _, .inl rfl⟩
    rcases hown.1.2 with ⟨rfl, rfl⟩ | ⟨g, cap, cur, rfl, _, _, hnc, _⟩
    · simp [Builtin.append_, run_underlying ht, sizeOf, typeInfo, hi, Builtin.lenOf, Builtin.firstCells]
    · simp [Builtin.append_, run_underlying ht, sizeOf, typeInfo, hi, Builtin.lenOf, Builtin.firstCells, hnc, storeCells]
  | some ad =>
    have hcells : ∀ j u, (ys.map (Value.int .i64))[j]? = some u → w.cell? (ad.add j) = some u := by
      intro j u hu
      rw [List.getElem?_map, Option.map_eq_some_iff] at hu
      obtain ⟨x, hx, rfl⟩ := hu
      exact hy.get hx
    obtain ⟨v', w', hr, h2, h3, _, h5⟩ := run_append_own_at (P := P) w base t ty e i (.int .i64 0) 1 8 ht hi hz0 hz1 hz2 rfl (by decide) v n _ hown.1 ad m c (ys.map (Value.int .i64)) (by simp [hy.len]) hcells (fun u hu => by
      rw [List.mem_map] at hu; obtain ⟨x, _, rfl⟩ := hu; rfl) (by unfold maxLen; omega) (by omega) hb
    exact ⟨v', w', hr, ⟨by rw [List.map_append]; exact h2, fits, by omega⟩, h3, h5⟩

theorem wp_append_ints {w : World} {o : Oper} {a : Act} {K : Act → World → Prop} {Q : Exit → Act → World → Prop} (s y : Operand) (t e : TypeId)
    (ho : o.op = .call { callee := .builtin .append, args := #[s, y], argTypes := #[t, t] }) (ht : P.underlying t = some (.slice e))
    (hinfo : (P.info? e).map (fun i => (i.zero, i.size, i.bytes)) = some (some (.int .i64 0), 1, 8))
    (base : Nat) (v : Value) (n : Nat) (xs : List Int) (hs : a.eval s = v) (hown : OwnS w base e v n xs) (hb : base ≤ w.heap.size)
    (A : Option Addr) (m c : Nat) (ys : List Int) (hx : a.eval y = .slice A m c) (hy : Ints w A m ys) (hn : n + m ≤ 17592186044000)
    (h : ∀ v' w', OwnS w' base e v' (n + m) (xs ++ ys) → w.grownBy w' v.ownBlock → (v'.ownBlock = v.ownBlock ∨ v'.ownBlock = some w.heap.size) → K (a.put o.dst v') w') : o.wp P a w K Q := by
  obtain ⟨v', w', hr, h2, h3, h4⟩ := run_append_ints (P := P) (ty := o.type) (c := c) ht hinfo hown hb hy hn
  unfold Oper.wp execOp
  simp only [ho, resolve, invoke, builtin, Sem.run_bind, Sem.run_pure, Result.andThen_ok, List.map_toArray, List.map_cons, List.map_nil, hs, hx, hr]
  exact h v' w' h2 h3 h4

theorem wpList_append_ints {w : World} {ops : Array Oper} {rest : List Oper} {o : Oper} {a : Act} {Q : Exit → Act → World → Prop} (hgd : o.guard = none) (s y : Operand) (t e : TypeId)
    (ho : o.op = .call { callee := .builtin .append, args := #[s, y], argTypes := #[t, t] }) (ht : P.underlying t = some (.slice e))
    (hinfo : (P.info? e).map (fun i => (i.zero, i.size, i.bytes)) = some (some (.int .i64 0), 1, 8))
    (base : Nat) (v : Value) (n : Nat) (xs : List Int) (hs : a.eval s = v) (hown : OwnS w base e v n xs) (hb : base ≤ w.heap.size)
    (A : Option Addr) (m c : Nat) (ys : List Int) (hx : a.eval y = .slice A m c) (hy : Ints w A m ys) (hn : n + m ≤ 17592186044000)
    (h : ∀ v' w', OwnS w' base e v' (n + m) (xs ++ ys) → w.grownBy w' v.ownBlock → (v'.ownBlock = v.ownBlock ∨ v'.ownBlock = some w.heap.size) → wpList P ops Q rest (a.put o.dst v') w') : wpList P ops Q (o :: rest) a w :=
  wpList_plain hgd fun _ hK => wp_append_ints s y t e ho ht hinfo base v n xs hs hown hb A m c ys hx hy hn fun v' w' h2 h3 h4 => hK _ _ (h v' w' h2 h3 h4)

theorem step_append_ints {w : World} {ops : Array Oper} {o : Oper} {a : Act} {K : Act → World → Prop} {Q : Exit → Act → World → Prop} {E : Prop} (hgd : o.guard = none) (s y : Operand) (t e : TypeId)
    (ho : o.op = .call { callee := .builtin .append, args := #[s, y], argTypes := #[t, t] }) (ht : P.underlying t = some (.slice e))
    (hinfo : (P.info? e).map (fun i => (i.zero, i.size, i.bytes)) = some (some (.int .i64 0), 1, 8))
    (base : Nat) (v : Value) (n : Nat) (xs : List Int) (hs : a.eval s = v) (hown : OwnS w base e v n xs) (hb : base ≤ w.heap.size)
    (A : Option Addr) (m c : Nat) (ys : List Int) (hx : a.eval y = .slice A m c) (hy : Ints w A m ys) (hn : n + m ≤ 17592186044000)
    (h : ∀ v' w', OwnS w' base e v' (n + m) (xs ++ ys) → w.grownBy w' v.ownBlock → (v'.ownBlock = v.ownBlock ∨ v'.ownBlock = some w.heap.size) → K (a.put o.dst v') w') :
    if Region.wanted o (yielded ops a.tmps) = true then Oper.wp P o a w K Q else E := by
  have hw : Region.wanted o (yielded ops a.tmps) = true := by simp [Region.wanted, hgd]
  rw [if_pos hw]
  exact wp_append_ints s y t e ho ht hinfo base v n xs hs hown hb A m c ys hx hy hn h

/-- '[]int{}': a new list of no numbers. -/
theorem own_empty (w : World) {base : Nat} (e : TypeId) (hb : base ≤ w.heap.size) : OwnS (w.alloc (.cells #[] e)) base e (.slice (some ⟨w.heap.size, 0, none⟩) 0 0) 0 [] :=
  ⟨World.ownsRow_lit w #[] 0 hb (Nat.zero_le _) rfl, by simp, by omega⟩

/-- Block g holds n slices of numbers. -/
def Lists (w : World) (g n : Nat) : Prop :=
  g < w.heap.size ∧ ∀ k, k < n → ∃ (A : Option Addr) (m c : Nat) (xs : List Int), w.cell? ⟨g, k, none⟩ = some (.slice A m c) ∧ m ≤ c ∧ Ints w A m xs
theorem Lists.below {w w' : World} {g n : Nat} (h : Lists w g n) (hb : Below w.heap.size w w') : Lists w' g n :=
  ⟨Nat.lt_of_lt_of_le h.1 hb.size, fun k hk => by
    obtain ⟨A, m, c, xs, hc, hm, hI⟩ := h.2 k hk
    exact ⟨A, m, c, xs, (hb.cell (p := ⟨g, k, none⟩) h.1).trans hc, hm, hI.below hb⟩⟩
/-- A value that is a slice of numbers. -/
def AList (w : World) (v : Value) : Prop := ∃ (A : Option Addr) (m c : Nat) (xs : List Int), v = .slice A m c ∧ m ≤ c ∧ Ints w A m xs
theorem lists_new (w : World) (cs : Array Value) (t : TypeId) (n : Nat) (hn : n = cs.size) (h : ∀ v ∈ cs.toList, AList w v) : Lists (w.alloc (.cells cs t)) w.heap.size n := by
  subst hn
  refine ⟨by simp, fun k hk => ?_⟩
  obtain ⟨A, m, c, xs, hv, hm, hI⟩ := h cs[k] (by simp)
  refine ⟨A, m, c, xs, ?_, hm, hI.alloc _⟩
  rw [World.cell?_alloc_at cs t _ k rfl, Array.getElem?_eq_getElem hk, hv]
theorem alist {w : World} {A : Option Addr} {m c : Nat} {xs : List Int} (h : Ints w A m xs) (hm : m ≤ c) : AList w (.slice A m c) := ⟨A, m, c, xs, rfl, hm, h⟩
theorem ints_fresh (w : World) (t : TypeId) (cs : Array Value) (xs : List Int) (hc : cs.toList = xs.map (Value.int .i64)) (hf : ∀ x ∈ xs, Fits x) (n : Nat) (hl : xs.length = n) (hn : n ≤ 1000) :
    Ints (w.alloc (.cells cs t)) (some ⟨w.heap.size, 0, none⟩) n xs := by
  refine ⟨hl, by omega, hf, fun _ => ⟨_, rfl, by simp, fun j x hj => ?_⟩⟩
  rw [Addr.add_lit, Nat.zero_add, World.cell?_alloc_at cs t _ j rfl, ← Array.getElem?_toList, hc, List.getElem?_map, hj]
  rfl
end Go.Proofs.Ytjmioegagigpmaa
