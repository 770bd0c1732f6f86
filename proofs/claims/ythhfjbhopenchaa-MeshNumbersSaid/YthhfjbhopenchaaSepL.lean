/- Lists of one's own, where a program knows no tensor (SepB, SepC want one): nothing new, rare names. -/
import Derived.Test.YthhfjbhopenchaaSep
namespace Go.Proofs.Ythhfjbhopenchaa
open Go.RowKit
variable {P : Program}

/-- A call's answer is a list of its own. -/
def MakesL (w : World) (t : TypeId) (xs : List Int) (e : Ending) (w' : World) : Prop := (∃ v n, e = .returned v ∧ OwnS w' w.heap.size t v n xs) ∧ Below w.heap.size w w'
theorem MakesL.none_ (w : World) (t : TypeId) : MakesL w t [] (.returned (.slice none 0 0)) w := ⟨⟨_, _, rfl, OwnS.nil_ _ _ _⟩, Below.refl _ _⟩
theorem MakesL.own {w w' : World} {g n c : Nat} {t : TypeId} {xs : List Int} (h : Own w' w.heap.size t g n c xs) (hb : Below w.heap.size w w') : MakesL w t xs (.returned (.slice (some ⟨g, 0, none⟩) n c)) w' := ⟨⟨_, _, rfl, h⟩, hb⟩
theorem Sep.addNilL {w0 w : World} {l : List Chunk} (h : Sep w0 w l) (e : TypeId) : Sep w0 w (.own e (.slice none 0 0) 0 [] :: l) :=
  Sep.cons_ h.1 (OwnS.nil_ _ _ _) h.2.1 (fun _ _ _ k hk => by cases hk) h.2.2
theorem Sep.tailL {w0 w : World} {c : Chunk} {l : List Chunk} (h : Sep w0 w (c :: l)) : Sep w0 w l :=
  ⟨h.1, fun i d hi => h.2.1 (i + 1) d hi, fun i j a b hij hi hj => h.2.2 (i + 1) (j + 1) a b (by omega) hi hj⟩
theorem wpList_append_sepL {w0 w : World} {ops : Array Oper} {rest : List Oper} {o : Oper} {a : Act} {Q : Exit → Act → World → Prop} (hgd : o.guard = none) (s y : Operand) (t e : TypeId)
    (ho : o.op = .call { callee := .builtin .append, args := #[s, y], argTypes := #[t, t] }) (ht : P.underlying t = some (.slice e))
    (hinfo : (P.info? e).map (fun i => (i.zero, i.size, i.bytes)) = some (some (.int .i64 0), 1, 8))
    {l : List Chunk} (H : Sep w0 w l) (i : Nat) {v : Value} {n : Nat} {xs : List Int} (hi : l[i]? = some (.own e v n xs)) (hs : a.eval s = v) (x : Int) (hf : Fits x) (c : Nat) (hy : a.eval y = .slice (some ⟨w.heap.size, 0, none⟩) 1 c)
    (hn : n ≤ 17592186043000)
    (h : ∀ v' w', Sep w0 w' (l.set i (.own e v' (n + 1) (xs ++ [x]))) → wpList P ops Q rest (a.put o.dst v') w') :
    wpList P ops Q (o :: rest) a (w.alloc (.cells #[.int .i64 x] e)) := by
  have H' := H.below ((Below.refl w.heap.size w).alloc (Nat.le_refl _) (.cells #[.int .i64 x] e))
  refine wpList_append_ints hgd s y t e ho ht hinfo w0.heap.size v n xs hs (H'.ownS i hi) (by have := H'.size; exact this) _ 1 c [x] hy (ints_fresh w e #[.int .i64 x] [x] rfl (by simpa using hf) 1 rfl (by omega)) (by omega) fun v' w' h1 h2 h3 => h v' w' (H'.grow i hi h2 h1 h3)
theorem wpList_appends_sepL {w0 w : World} {ops : Array Oper} {rest : List Oper} {o : Oper} {a : Act} {Q : Exit → Act → World → Prop} (hgd : o.guard = none) (s y : Operand) (t e : TypeId)
    (ho : o.op = .call { callee := .builtin .append, args := #[s, y], argTypes := #[t, t] }) (ht : P.underlying t = some (.slice e))
    (hinfo : (P.info? e).map (fun i => (i.zero, i.size, i.bytes)) = some (some (.int .i64 0), 1, 8))
    {l : List Chunk} (H : Sep w0 w l) (i : Nat) {v : Value} {n : Nat} {xs : List Int} (hi : l[i]? = some (.own e v n xs)) (hs : a.eval s = v) (A : Option Addr) (m c : Nat) (ys : List Int) (hy : a.eval y = .slice A m c) (hI : Ints w A m ys)
    (hn : n + m ≤ 17592186044000)
    (h : ∀ v' w', Sep w0 w' (l.set i (.own e v' (n + m) (xs ++ ys))) → wpList P ops Q rest (a.put o.dst v') w') : wpList P ops Q (o :: rest) a w :=
  wpList_append_ints hgd s y t e ho ht hinfo w0.heap.size v n xs hs (H.ownS i hi) H.size A m c ys hy hI hn fun v' w' h1 h2 h3 => h v' w' (H.grow i hi h2 h1 h3)
/-- The same where the operation has a guard that says yes. -/
theorem wpList_appends_gL {w0 w : World} {ops : Array Oper} {rest : List Oper} {o : Oper} {a : Act} {Q : Exit → Act → World → Prop} (hw : Region.wanted o (yielded ops a.tmps) = true) (s y : Operand) (t e : TypeId)
    (ho : o.op = .call { callee := .builtin .append, args := #[s, y], argTypes := #[t, t] }) (ht : P.underlying t = some (.slice e))
    (hinfo : (P.info? e).map (fun i => (i.zero, i.size, i.bytes)) = some (some (.int .i64 0), 1, 8))
    {l : List Chunk} (H : Sep w0 w l) (i : Nat) {v : Value} {n : Nat} {xs : List Int} (hi : l[i]? = some (.own e v n xs)) (hs : a.eval s = v) (A : Option Addr) (m c : Nat) (ys : List Int) (hy : a.eval y = .slice A m c) (hI : Ints w A m ys)
    (hn : n + m ≤ 17592186044000)
    (h : ∀ v' w', Sep w0 w' (l.set i (.own e v' (n + m) (xs ++ ys))) → wpList P ops Q rest (a.put o.dst v') w') : wpList P ops Q (o :: rest) a w :=
  wpList_step fun K hK => by
    rw [if_pos hw]
    exact wp_append_ints s y t e ho ht hinfo w0.heap.size v n xs hs (H.ownS i hi) H.size A m c ys hy hI hn fun v' w' h1 h2 h3 => hK _ _ (h v' w' (H.grow i hi h2 h1 h3))
theorem own_litL (w : World) {base n : Nat} (e : TypeId) (cs : Array Value) (xs : List Int) (hb : base ≤ w.heap.size) (hc : cs.toList = xs.map (Value.int .i64)) (h : litOk xs n = true) :
    OwnS (w.alloc (.cells cs e)) base e (.slice (some ⟨w.heap.size, 0, none⟩) n n) n xs := by
  simp only [litOk, Bool.and_eq_true, decide_eq_true_eq, List.all_eq_true] at h
  have hs : cs.size = n * 1 := by rw [← Array.length_toList, hc, List.length_map]; omega
  refine ⟨?_, fun x hx => h.1.1 x hx, by omega⟩
  have := World.ownsRow_lit (e := e) w cs n hb (by unfold maxLen; omega) hs
  rwa [hc] at this
theorem Sep.litL {w0 w : World} {l : List Chunk} (h : Sep w0 w l) (e : TypeId) (cs : Array Value) (xs : List Int) (n g : Nat) (hg : w.heap.size = g) (hc : cs.toList = xs.map (Value.int .i64)) (hl : litOk xs n = true) :
    Sep w0 (w.alloc (.cells cs e)) (.own e (.slice (some ⟨g, 0, none⟩) n n) n xs :: l) := by
  subst hg
  exact h.addOwn ((Below.refl _ _).alloc (Nat.le_refl _) _) (own_litL w e cs xs (Nat.le_refl _) hc hl)
end Go.Proofs.Ythhfjbhopenchaa
