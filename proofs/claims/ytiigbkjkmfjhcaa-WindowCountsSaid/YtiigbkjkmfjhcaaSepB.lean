/- More on what a function keeps: new lists of noughts, appends. -/
import Derived.Test.YtiigbkjkmfjhcaaSep
import Derived.Test.YtiigbkjkmfjhcaaTenD
namespace Go.Proofs.Ytiigbkjkmfjhcaa
open Go.RowKit
variable {P : Program}

theorem Sep.addNil {w0 w : World} {l : List Chunk} (h : Sep w0 w l) (e : TypeId) : Sep w0 w (.own e (.slice none 0 0) 0 [] :: l) :=
  Sep.cons_ h.1 (OwnS.nil_ _ _ _) h.2.1 (fun _ _ _ k hk => by cases hk) h.2.2
/-- 'make([]T, n)': n noughts. -/
theorem Sep.noughts {w0 w : World} {l : List Chunk} (h : Sep w0 w l) (e : TypeId) (n : Nat) (hn : n ≤ 17592186044000) : Sep w0 (w.alloc (.cells (noughts n) e)) (.own e (.slice (some ⟨w.heap.size, 0, none⟩) n n) n (List.replicate n 0) :: l) :=
  h.addOwn ((Below.refl _ _).alloc (Nat.le_refl _) _) (own_noughts (heap_alloc_new _ _) (Nat.le_refl _) hn)

/-- A literal list of one's own. -/
theorem own_litS (w : World) {base n : Nat} (e : TypeId) (cs : Array Value) (xs : List Int) (hb : base ≤ w.heap.size) (hc : cs.toList = xs.map (Value.int .i64)) (h : litOk xs n = true) :
    OwnS (w.alloc (.cells cs e)) base e (.slice (some ⟨w.heap.size, 0, none⟩) n n) n xs := by
  simp only [litOk, Bool.and_eq_true, decide_eq_true_eq, List.all_eq_true] at h
  have hs : cs.size = n * 1 := by rw [← Array.length_toList, hc, List.length_map]; omega
  refine ⟨?_, fun x hx => h.1.1 x hx, by omega⟩
  have := World.ownsRow_lit (e := e) w cs n hb (by unfold maxLen; omega) hs
  rwa [hc] at this
theorem Sep.lit {w0 w : World} {l : List Chunk} (h : Sep w0 w l) (e : TypeId) (cs : Array Value) (xs : List Int) (n g : Nat) (hg : w.heap.size = g) (hc : cs.toList = xs.map (Value.int .i64)) (hl : litOk xs n = true) :
    Sep w0 (w.alloc (.cells cs e)) (.own e (.slice (some ⟨g, 0, none⟩) n n) n xs :: l) := by
  subst hg
  exact h.addOwn ((Below.refl _ _).alloc (Nat.le_refl _) _) (own_litS w e cs xs (Nat.le_refl _) hc hl)
/-- '[]T{}' -/
theorem Sep.empty {w0 w : World} {l : List Chunk} (h : Sep w0 w l) (e : TypeId) : Sep w0 (w.alloc (.cells #[] e)) (.own e (.slice (some ⟨w.heap.size, 0, none⟩) 0 0) 0 [] :: l) :=
  h.addOwn ((Below.refl _ _).alloc (Nat.le_refl _) _) (own_empty w e (Nat.le_refl _))
/-- What was there when the call began. -/
theorem Sep.oldCell {w0 w : World} {l : List Chunk} (h : Sep w0 w l) {p : Addr} {v : Value} (hb : p.block < w0.heap.size) (hc : w0.cell? p = some v) : w.cell? p = some v := (h.base.cell hb).trans hc
theorem Sep.oldTen {w0 w : World} {l : List Chunk} (h : Sep w0 w l) {v : Value} {s d : List Int} (ht : Ten w0 v s d) : Ten w v s d := ht.below h.base
theorem Sep.oldI {w0 w : World} {l : List Chunk} (h : Sep w0 w l) {A : Option Addr} {n : Nat} {xs : List Int} (hI : Ints w0 A n xs) : Ints w A n xs := hI.below h.base

/-- 's = append(s, x)', where x was laid into a new block of one cell. -/
theorem wpList_append_sep {w0 w : World} {ops : Array Oper} {rest : List Oper} {o : Oper} {a : Act} {Q : Exit → Act → World → Prop} (hgd : o.guard = none) (s y : Operand) (t e : TypeId)
    (ho : o.op = .call { callee := .builtin .append, args := #[s, y], argTypes := #[t, t] }) (ht : P.underlying t = some (.slice e))
    (hinfo : (P.info? e).map (fun i => (i.zero, i.size, i.bytes)) = some (some (.int .i64 0), 1, 8))
    {l : List Chunk} (H : Sep w0 w l) (i : Nat) {v : Value} {n : Nat} {xs : List Int} (hi : l[i]? = some (.own e v n xs)) (hs : a.eval s = v) (x : Int) (hf : Fits x) (c : Nat) (hy : a.eval y = .slice (some ⟨w.heap.size, 0, none⟩) 1 c)
    (hn : n ≤ 17592186043000)
    (h : ∀ v' w', Sep w0 w' (l.set i (.own e v' (n + 1) (xs ++ [x]))) → wpList P ops Q rest (a.put o.dst v') w') :
    wpList P ops Q (o :: rest) a (w.alloc (.cells #[.int .i64 x] e)) := by
  have H' := H.below ((Below.refl w.heap.size w).alloc (Nat.le_refl _) (.cells #[.int .i64 x] e))
  refine wpList_append_ints hgd s y t e ho ht hinfo w0.heap.size v n xs hs (H'.ownS i hi) (by have := H'.size; exact this) _ 1 c [x] hy (ints_fresh w e #[.int .i64 x] [x] rfl (by simpa using hf) 1 rfl (by omega)) (by omega) fun v' w' h1 h2 h3 => h v' w' (H'.grow i hi h2 h1 h3)
/-- The same in a region that draws its order. -/
theorem step_append_sep {w0 w : World} {ops : Array Oper} {o : Oper} {a : Act} {K : Act → World → Prop} {Q : Exit → Act → World → Prop} {E : Prop} (hgd : o.guard = none) (s y : Operand) (t e : TypeId)
    (ho : o.op = .call { callee := .builtin .append, args := #[s, y], argTypes := #[t, t] }) (ht : P.underlying t = some (.slice e))
    (hinfo : (P.info? e).map (fun i => (i.zero, i.size, i.bytes)) = some (some (.int .i64 0), 1, 8))
    {l : List Chunk} (H : Sep w0 w l) (i : Nat) {v : Value} {n : Nat} {xs : List Int} (hi : l[i]? = some (.own e v n xs)) (hs : a.eval s = v) (x : Int) (hf : Fits x) (c : Nat) (hy : a.eval y = .slice (some ⟨w.heap.size, 0, none⟩) 1 c)
    (hn : n ≤ 17592186043000)
    (h : ∀ v' w', Sep w0 w' (l.set i (.own e v' (n + 1) (xs ++ [x]))) → K (a.put o.dst v') w') :
    if Region.wanted o (yielded ops a.tmps) = true then Oper.wp P o a (w.alloc (.cells #[.int .i64 x] e)) K Q else E := by
  have H' := H.below ((Below.refl w.heap.size w).alloc (Nat.le_refl _) (.cells #[.int .i64 x] e))
  refine step_append_ints hgd s y t e ho ht hinfo w0.heap.size v n xs hs (H'.ownS i hi) (by have := H'.size; exact this) _ 1 c [x] hy (ints_fresh w e #[.int .i64 x] [x] rfl (by simpa using hf) 1 rfl (by omega)) (by omega) fun v' w' h1 h2 h3 => h v' w' (H'.grow i hi h2 h1 h3)
/-- 's = append(s, ys...)' -/
theorem wpList_appends_sep {w0 w : World} {ops : Array Oper} {rest : List Oper} {o : Oper} {a : Act} {Q : Exit → Act → World → Prop} (hgd : o.guard = none) (s y : Operand) (t e : TypeId)
    (ho : o.op = .call { callee := .builtin .append, args := #[s, y], argTypes := #[t, t] }) (ht : P.underlying t = some (.slice e))
    (hinfo : (P.info? e).map (fun i => (i.zero, i.size, i.bytes)) = some (some (.int .i64 0), 1, 8))
    {l : List Chunk} (H : Sep w0 w l) (i : Nat) {v : Value} {n : Nat} {xs : List Int} (hi : l[i]? = some (.own e v n xs)) (hs : a.eval s = v) (A : Option Addr) (m c : Nat) (ys : List Int) (hy : a.eval y = .slice A m c) (hI : Ints w A m ys)
    (hn : n + m ≤ 17592186044000)
    (h : ∀ v' w', Sep w0 w' (l.set i (.own e v' (n + m) (xs ++ ys))) → wpList P ops Q rest (a.put o.dst v') w') : wpList P ops Q (o :: rest) a w :=
  wpList_append_ints hgd s y t e ho ht hinfo w0.heap.size v n xs hs (H.ownS i hi) H.size A m c ys hy hI hn fun v' w' h1 h2 h3 => h v' w' (H.grow i hi h2 h1 h3)
/-- The same in a region that draws its order. -/
theorem step_appends_sep {w0 w : World} {ops : Array Oper} {o : Oper} {a : Act} {K : Act → World → Prop} {Q : Exit → Act → World → Prop} {E : Prop} (hgd : o.guard = none) (s y : Operand) (t e : TypeId)
    (ho : o.op = .call { callee := .builtin .append, args := #[s, y], argTypes := #[t, t] }) (ht : P.underlying t = some (.slice e))
    (hinfo : (P.info? e).map (fun i => (i.zero, i.size, i.bytes)) = some (some (.int .i64 0), 1, 8))
    {l : List Chunk} (H : Sep w0 w l) (i : Nat) {v : Value} {n : Nat} {xs : List Int} (hi : l[i]? = some (.own e v n xs)) (hs : a.eval s = v) (A : Option Addr) (m c : Nat) (ys : List Int) (hy : a.eval y = .slice A m c) (hI : Ints w A m ys)
    (hn : n + m ≤ 17592186044000)
    (h : ∀ v' w', Sep w0 w' (l.set i (.own e v' (n + m) (xs ++ ys))) → K (a.put o.dst v') w') :
    if Region.wanted o (yielded ops a.tmps) = true then Oper.wp P o a w K Q else E :=
  step_append_ints hgd s y t e ho ht hinfo w0.heap.size v n xs hs (H.ownS i hi) H.size A m c ys hy hI hn fun v' w' h1 h2 h3 => h v' w' (H.grow i hi h2 h1 h3)
theorem and3 (n : Int) : bits .and .i64 n 3 = n % 4 := by
  have h7 : (BitVec.ofInt 64 3).toNat = 2 ^ 2 - 1 := by decide
  have key : (BitVec.ofInt 64 n &&& BitVec.ofInt 64 3).toNat = (n % ((2 ^ 64 : Nat) : Int)).toNat % 2 ^ 2 := by
    rw [BitVec.toNat_and, BitVec.toNat_ofInt, h7, Nat.and_two_pow_sub_one_eq_mod]
  show IntKind.i64.wrap ((BitVec.ofInt 64 n &&& BitVec.ofInt 64 3).toNat : Nat) = n % 4
  rw [key, IntKind.wrap_i64]
  omega
theorem tmod_bd_ {a : Int} {L : Nat} (hL : 0 < L) (h : a < 0) : -(L : Int) < a.tmod L ∧ a.tmod L ≤ 0 := by
  have h1 : a.tmod L = -((-a) % L) := by
    rw [← Int.tmod_eq_emod_of_nonneg (by omega), Int.neg_tmod, Int.neg_neg]
  have h2 := Int.emod_nonneg (-a) (b := (L : Int)) (by omega)
  have h3 := Int.emod_lt_of_pos (-a) (b := (L : Int)) (by omega)
  omega
theorem Sep.recast {w0 w : World} {l l' : List Chunk} (H : Sep w0 w l) (h : l = l') : Sep w0 w l' := h ▸ H
end Go.Proofs.Ytiigbkjkmfjhcaa
