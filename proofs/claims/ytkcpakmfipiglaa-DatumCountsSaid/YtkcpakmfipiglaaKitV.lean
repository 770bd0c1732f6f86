/- Lists of values (cells of one each) in memory, of an element type that is given. No program is named. -/
import Derived.Test.YtkcpakmfipiglaaKit
import Derived.Maps.AppendAt
namespace Go.Proofs.Ytkcpakmfipiglaa
open Go.RowKit

/-- The slice value '.slice A n c' reads, in w, as the values us. -/
def Vals (w : World) (A : Option Addr) (n : Nat) (us : List Value) : Prop :=
  us.length = n ∧ n ≤ 9223372036854775807 ∧ (∀ u ∈ us, u.oneCell' = true) ∧ (0 < n → ∃ ad, A = some ad ∧ ad.block < w.heap.size ∧ ∀ j u, us[j]? = some u → w.cell? (ad.add j) = some u)
theorem Vals.below {w w' : World} {A : Option Addr} {n : Nat} {us : List Value} (h : Vals w A n us) (hb : Below w.heap.size w w') : Vals w' A n us :=
  ⟨h.1, h.2.1, h.2.2.1, fun hn => by
    obtain ⟨ad, e, hl, hc⟩ := h.2.2.2 hn
    exact ⟨ad, e, Nat.lt_of_lt_of_le hl hb.size, fun j u hu => (hb.cell (by rw [block_of_add]; exact hl)).trans (hc j u hu)⟩⟩
theorem Vals.at_ {w : World} {A : Option Addr} {n : Nat} {us : List Value} (h : Vals w A n us) {k : Nat} (hk : k < n) :
    ∃ ad u, A = some ad ∧ ad.block < w.heap.size ∧ us[k]? = some u ∧ w.cell? (ad.add k) = some u := by
  obtain ⟨ad, e, hb, hc⟩ := h.2.2.2 (by omega)
  have hl : k < us.length := by have := h.1; omega
  exact ⟨ad, us[k], e, hb, List.getElem?_eq_getElem hl, hc k _ (List.getElem?_eq_getElem hl)⟩

/-- A slice value of the call's own, of values. -/
def OwnV (w : World) (base : Nat) (e : TypeId) (v : Value) (n : Nat) (us : List Value) : Prop :=
  w.ownsRow base e 1 v n us ∧ (∀ u ∈ us, u.oneCell' = true) ∧ n ≤ 9223372036854775807
section
variable {w w' : World} {base n : Nat} {e : TypeId} {v : Value} {us : List Value}
theorem OwnV.nil_ (w : World) (base : Nat) (e : TypeId) : OwnV w base e (.slice none 0 0) 0 [] := ⟨World.ownsRow_nil w base e 1, by simp, by omega⟩
theorem OwnV.len (h : OwnV w base e v n us) : us.length = n := by simpa using h.1.1
theorem OwnV.grown (h : OwnV w base e v n us) {g : Nat} (hg : w.grownBy w' (some g)) (hb : g < base) : OwnV w' base e v n us :=
  ⟨h.1.kept hg (by
    cases hv : v.ownBlock with
    | none => exact .inl rfl
    | some k => right; have := (h.1.lt k hv).1; intro hk; injection hk with hk; omega), h.2.1, h.2.2⟩
theorem OwnV.below (h : OwnV w base e v n us) (hb : Below w.heap.size w w') : OwnV w' base e v n us :=
  ⟨h.1.kept (row := none) (grown_of_below hb none) (by cases v.ownBlock with | none => exact .inl rfl | some k => exact .inr (by simp)), h.2.1, h.2.2⟩
theorem OwnV.alloc (h : OwnV w base e v n us) (o : Obj) : OwnV (w.alloc o) base e v n us := ⟨h.1.alloc o, h.2.1, h.2.2⟩
theorem OwnV.block (h : OwnV w base e v n us) (k : Nat) (hk : v.ownBlock = some k) : base ≤ k := (h.1.lt k hk).1
theorem OwnV.form (h : OwnV w base e v n us) : ∃ A c, v = .slice A n c ∧ n ≤ c ∧ Vals w A n us := by
  rcases h.1.2 with ⟨rfl, rfl⟩ | ⟨g, c, cur, rfl, hb, hh, hnc, hcm, hcs, hct⟩
  · have : us = [] := List.eq_nil_of_length_eq_zero h.len
    subst this
    exact ⟨none, 0, rfl, by omega, rfl, by omega, by simp, fun h => absurd h (by omega)⟩
  · refine ⟨_, c, rfl, hnc, h.len, h.2.2, h.2.1, fun hn => ⟨_, rfl, ?_, fun j u hu => ?_⟩⟩
    · exact (h.1.lt g rfl).2
    · rw [Addr.add_lit, Nat.zero_add, h.1.cellAt j (by rw [Nat.mul_one, ← h.len]; exact (List.getElem?_eq_some_iff.1 hu).1), hu]
end

/-- 's = append(s, u)': one value more, on a slice of the call's own. -/
theorem wpList_append_val {P : Program} {w : World} {ops : Array Oper} {rest : List Oper} {o : Oper} {a : Act} {Q : Exit → Act → World → Prop} (hgd : o.guard = none) (s y : Operand) (t e : TypeId)
    (ho : o.op = .call { callee := .builtin .append, args := #[s, y], argTypes := #[t, t] }) (ht : P.underlying t = some (.slice e)) {z : Value} {b : Nat} (hz : z.cells.size = 1) (hb16 : b ≤ 64)
    (hinfo : (P.info? e).map (fun i => (i.zero, i.size, i.bytes)) = some (some z, 1, b))
    (base : Nat) (v : Value) (n : Nat) (us : List Value) (hs : a.eval s = v) (hown : OwnV w base e v n us) (hb : base ≤ w.heap.size) (u : Value) (hu : u.oneCell' = true) (c H : Nat) (hH : w.heap.size = H) (hy : a.eval y = .slice (some ⟨H, 0, none⟩) 1 c)
    (hn : n ≤ 1000000000)
    (h : ∀ v' w', OwnV w' base e v' (n + 1) (us ++ [u]) → Below base w w' → w.grownBy w' v.ownBlock → wpList P ops Q rest (a.put o.dst v') w') :
    wpList P ops Q (o :: rest) a (w.alloc (.cells #[u] e)) := by
  subst hH
  have hcell : (w.alloc (.cells #[u] e)).cell? ⟨w.heap.size, 0, none⟩ = some u := by rw [World.cell?_alloc_at _ _ _ _ rfl]; rfl
  obtain ⟨i, hi, hz0, hz1, hz2⟩ := info_parts hinfo
  have hbb : (n + 1) * b ≤ 140737488355328 := Nat.le_trans (Nat.mul_le_mul (by omega : n + 1 ≤ 1000000001) hb16) (by omega)
  refine wpList_append_own _ hgd s y t ho base e i z 1 b ht hi hz0 hz1 hz2 hz (by decide) v n _ hs (hown.alloc _).1 ⟨w.heap.size, 0, none⟩ 1 c [u] hy rfl ?_ ?_ (by unfold maxLen; omega) hbb (by simp; omega) ?_
  · intro j u' hj
    cases j with
    | zero => simp at hj; subst hj; rw [Addr.add_lit]; exact hcell
    | succ j => simp at hj
  · intro u' hu'; simp at hu'; subst hu'; exact hu
  · intro v' w' ho' hg' _
    have hO : OwnV w' base e v' (n + 1) (us ++ [u]) := ⟨by simpa using ho', by intro z hz; simp at hz; rcases hz with hz | rfl; exact hown.2.1 z hz; exact hu, by omega⟩
    have hgr : w.grownBy w' v.ownBlock := grown_trans (World.grownBy_alloc w _ _) hg'
    exact h v' w' hO ((Below.refl _ _).grown hgr hb (fun k hk => hown.block k hk)) hgr
theorem Vals.nil_addr {w : World} {n : Nat} {xs : List Value} (h : Vals w none n xs) : n = 0 ∧ xs = [] := by
  rcases Nat.eq_zero_or_pos n with hn | hn
  · exact ⟨hn, List.eq_nil_of_length_eq_zero (by rw [h.1, hn])⟩
  · obtain ⟨ad, e, _⟩ := h.2.2.2 hn
    cases e
/-- '[]T{}': a new list of no values. -/
theorem own_emptyV (w : World) {base : Nat} (e : TypeId) (hb : base ≤ w.heap.size) : OwnV (w.alloc (.cells #[] e)) base e (.slice (some ⟨w.heap.size, 0, none⟩) 0 0) 0 [] :=
  ⟨World.ownsRow_lit w #[] 0 hb (Nat.zero_le _) rfl, by simp, by omega⟩

theorem run_append_vals {P : Program} {w : World} {t ty e : TypeId} (ht : P.underlying t = some (.slice e)) {z : Value} {b : Nat} (hz : z.cells.size = 1) (hb64 : b ≤ 64)
    (hinfo : (P.info? e).map (fun i => (i.zero, i.size, i.bytes)) = some (some z, 1, b))
    {base : Nat} {v : Value} {n : Nat} {xs : List Value} (hown : OwnV w base e v n xs) (hb : base ≤ w.heap.size)
    {A : Option Addr} {m c : Nat} {ys : List Value} (hy : Vals w A m ys) (hn : n + m ≤ 1000000000) :
    ∃ v' w', (Builtin.append_ #[t, t] ty #[v, .slice A m c]).run P w = .ok v' w' ∧ OwnV w' base e v' (n + m) (xs ++ ys) ∧ w.grownBy w' v.ownBlock ∧ (v'.ownBlock = v.ownBlock ∨ v'.ownBlock = some w.heap.size) := by
  obtain ⟨i, hi, hz0, hz1, hz2⟩ := info_parts hinfo
  have ones : ∀ u ∈ xs ++ ys, u.oneCell' = true := fun u hu => by
    rcases List.mem_append.1 hu with hu | hu
    · exact hown.2.1 u hu
    · exact hy.2.2.1 u hu
  cases A with
  | none =>
    obtain ⟨rfl, rfl⟩ := hy.nil_addr
    refine ⟨v, w, ?_, by simpa using hown, World.grownBy.refl _ _, .inl rfl⟩
    rcases hown.1.2 with ⟨rfl, rfl⟩ | ⟨g, cap, cur, rfl, _, _, hnc, _⟩
    · simp [Builtin.append_, run_underlying ht, sizeOf, typeInfo, hi, Builtin.lenOf, Builtin.firstCells]
    · simp [Builtin.append_, run_underlying ht, sizeOf, typeInfo, hi, Builtin.lenOf, Builtin.firstCells, hnc, storeCells]
  | some ad =>
    have hcells : ∀ j u, ys[j]? = some u → w.cell? (ad.add j) = some u := by
      intro j u hu
      have hm : 0 < m := by rw [← hy.1]; exact Nat.lt_of_le_of_lt (Nat.zero_le _) (List.getElem?_eq_some_iff.1 hu).1
      obtain ⟨ad', e', _, hc⟩ := hy.2.2.2 hm
      injection e' with e'
      subst e'
      exact hc j u hu
    have hbb : (n + m) * b ≤ 140737488355328 := Nat.le_trans (Nat.mul_le_mul hn hb64) (by omega)
    obtain ⟨v', w', hr, h2, h3, _, h5⟩ := run_append_own_at (P := P) w base t ty e i z 1 b ht hi hz0 hz1 hz2 hz (by decide) v n _ hown.1 ad m c ys (by simp [hy.1]) hcells hy.2.2.1 (by unfold maxLen; omega) hbb hb
    exact ⟨v', w', hr, ⟨h2, ones, by omega⟩, h3, h5⟩

theorem wpList_append_vals {P : Program} {w : World} {ops : Array Oper} {rest : List Oper} {o : Oper} {a : Act} {Q : Exit → Act → World → Prop} (hgd : o.guard = none) (s y : Operand) (t e : TypeId)
    (ho : o.op = .call { callee := .builtin .append, args := #[s, y], argTypes := #[t, t] }) (ht : P.underlying t = some (.slice e)) {z : Value} {b : Nat} (hz : z.cells.size = 1) (hb64 : b ≤ 64)
    (hinfo : (P.info? e).map (fun i => (i.zero, i.size, i.bytes)) = some (some z, 1, b))
    (base : Nat) (v : Value) (n : Nat) (xs : List Value) (hs : a.eval s = v) (hown : OwnV w base e v n xs) (hb : base ≤ w.heap.size)
    (A : Option Addr) (m c : Nat) (ys : List Value) (hx : a.eval y = .slice A m c) (hy : Vals w A m ys) (hn : n + m ≤ 1000000000)
    (h : ∀ v' w', OwnV w' base e v' (n + m) (xs ++ ys) → w.grownBy w' v.ownBlock → Below base w w' → wpList P ops Q rest (a.put o.dst v') w') : wpList P ops Q (o :: rest) a w := by
  refine wpList_plain hgd fun K hK => ?_
  obtain ⟨v', w', hr, h2, h3, _⟩ := run_append_vals (P := P) (ty := o.type) (c := c) ht hz hb64 hinfo hown hb hy hn
  unfold Oper.wp execOp
  simp only [ho, resolve, invoke, builtin, Sem.run_bind, Sem.run_pure, Result.andThen_ok, List.map_toArray, List.map_cons, List.map_nil, hs, hx, hr]
  exact hK _ _ (h v' w' h2 h3 ((Below.refl _ _).grown h3 hb (fun k hk => hown.block k hk)))

theorem and7 (n : Int) : bits .and .i64 n 7 = n % 8 := by
  have h7 : (BitVec.ofInt 64 7).toNat = 2 ^ 3 - 1 := by decide
  have key : (BitVec.ofInt 64 n &&& BitVec.ofInt 64 7).toNat = (n % ((2 ^ 64 : Nat) : Int)).toNat % 2 ^ 3 := by
    rw [BitVec.toNat_and, BitVec.toNat_ofInt, h7, Nat.and_two_pow_sub_one_eq_mod]
  show IntKind.i64.wrap ((BitVec.ofInt 64 n &&& BitVec.ofInt 64 7).toNat : Nat) = n % 8
  rw [key, IntKind.wrap_i64]
  omega
end Go.Proofs.Ytkcpakmfipiglaa
