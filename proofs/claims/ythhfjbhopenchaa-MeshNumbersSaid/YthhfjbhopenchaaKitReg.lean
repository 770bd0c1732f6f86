/- A region that draws its order, walked operation by operation in a chosen order. No program is named. -/
import Derived.Test.YthhfjbhopenchaaKit
import Derived.Deep.RegionHeld3
namespace Go.Proofs.Ythhfjbhopenchaa

/-- The i-th of a list, so that it comes out as it is written. -/
def nth {α : Type} : List α → Nat → Option α
  | [], _ => none
  | x :: _, 0 => some x
  | _ :: l, n + 1 => nth l n
theorem nth_list {α : Type} : ∀ (l : List α) (i : Nat), nth l i = l[i]?
  | [], i => by simp [nth]
  | x :: l, 0 => by simp [nth]
  | x :: l, i + 1 => by simp [nth, nth_list l i]
theorem nth_arr {α : Type} {ops : Array α} {i : Nat} {o : α} (h : nth ops.toList i = some o) : ops[i]? = some o := by
  rw [nth_list] at h
  rw [← Array.getElem?_toList]; exact h
section
variable {P : Program} {md : Region.Mode} {ops : Array Oper} {Q : Exit → Act → World → Prop} {S : World → Prop} {i : Nat} {oi : Oper} {fuel : Nat} {listed : Array Bool} {a : Act} {w : World}
/-- An operation whose guard says no is taken first. -/
theorem takeU (hi : ops[i]? = some oi) (hs : Region.noSelect ops = true) (hf : Region.free md ops listed i = true) (hr : (Region.ready md ops listed).contains i = true)
    (hQ : ∀ c a w, Q (.panic c) (a.put oi.dst undef) w → Q (.panic c) a w) (hw : Region.wanted oi (yielded ops a.tmps) = false) (hS : S w)
    (h : wpAnyH P md ops Q S fuel (listed.setIfInBounds i true) (a.put oi.dst undef) w) : wpAnyH P md ops Q S (fuel + 1) listed a w :=
  wpAnyH_take hi hs hf hr hQ (.inr ⟨hw, rfl⟩) hS h
/-- An operation that gives v in every world of S is taken first. -/
theorem takeW (v : Value) (hi : ops[i]? = some oi) (hs : Region.noSelect ops = true) (hf : Region.free md ops listed i = true) (hr : (Region.ready md ops listed).contains i = true)
    (hQ : ∀ c a w, Q (.panic c) (a.put oi.dst v) w → Q (.panic c) a w) (hw : Region.wanted oi (yielded ops a.tmps) = true) (hy : ∀ w, S w → (execOp a.eval oi).run P w = .ok (.value v) w) (hS : S w)
    (h : wpAnyH P md ops Q S fuel (listed.setIfInBounds i true) (a.put oi.dst v) w) : wpAnyH P md ops Q S (fuel + 1) listed a w :=
  wpAnyH_take hi hs hf hr hQ (.inl ⟨hw, hy⟩) hS h
/-- The same, in short. -/
theorem tU (i : Nat) (hS : S w) (h : wpAnyH P md ops Q S fuel (listed.setIfInBounds i true) (a.put oi.dst undef) w)
    (hi : nth ops.toList i = some oi := by rfl) (hs : Region.noSelect ops = true := by kernel_rfl) (hf : Region.free md ops listed i = true := by kernel_rfl) (hr : (Region.ready md ops listed).contains i = true := by kernel_rfl)
    (hQ : ∀ c a w, Q (.panic c) (a.put oi.dst undef) w → Q (.panic c) a w := by exact fun _ _ _ h => h) (hw : Region.wanted oi (yielded ops a.tmps) = false := by rfl) : wpAnyH P md ops Q S (fuel + 1) listed a w :=
  takeU (nth_arr hi) hs hf hr hQ hw hS h
theorem tW (i : Nat) (hS : S w) (v : Value) (hy : ∀ w, S w → (execOp a.eval oi).run P w = .ok (.value v) w) (h : wpAnyH P md ops Q S fuel (listed.setIfInBounds i true) (a.put oi.dst v) w)
    (hi : nth ops.toList i = some oi := by rfl) (hs : Region.noSelect ops = true := by kernel_rfl) (hf : Region.free md ops listed i = true := by kernel_rfl) (hr : (Region.ready md ops listed).contains i = true := by kernel_rfl)
    (hQ : ∀ c a w, Q (.panic c) (a.put oi.dst v) w → Q (.panic c) a w := by exact fun _ _ _ h => h) (hw : Region.wanted oi (yielded ops a.tmps) = true := by rfl) : wpAnyH P md ops Q S (fuel + 1) listed a w :=
  takeW v (nth_arr hi) hs hf hr hQ hw hy hS h
theorem e1 (i : Nat) {o : Oper} (h : ∀ K' : Act → World → Prop, Shut (∀ a w, S w → (S w → wpAnyH P md ops Q S fuel (listed.setIfInBounds i true) a w) → K' a w) → if Region.wanted o (yielded ops a.tmps) = true then Oper.wp P o a w K' Q else K' (a.put o.dst undef) w)
    (ho : nth ops.toList i = some o := by rfl) (hr : Region.ready md ops listed = [i] := by kernel_rfl) : wpAnyH P md ops Q S (fuel + 1) listed a w :=
  wpAnyH_ready hr (by simp) (AllReadyH.cons (nth_arr ho) h AllReadyH.nil)
theorem aC {i : Nat} {o : Oper} {rs : List Nat} (h : ∀ K' : Act → World → Prop, Shut (∀ a w, S w → (S w → wpAnyH P md ops Q S fuel (listed.setIfInBounds i true) a w) → K' a w) → if Region.wanted o (yielded ops a.tmps) = true then Oper.wp P o a w K' Q else K' (a.put o.dst undef) w)
    (hs : AllReadyH P md ops Q S fuel listed a w rs) (ho : nth ops.toList i = some o := by rfl) : AllReadyH P md ops Q S fuel listed a w (i :: rs) := AllReadyH.cons (nth_arr ho) h hs
theorem rD (rs : List Nat) (h : AllReadyH P md ops Q S fuel listed a w rs) (hr : Region.ready md ops listed = rs := by kernel_rfl) (hne : rs ≠ [] := by simp) : wpAnyH P md ops Q S (fuel + 1) listed a w := wpAnyH_ready hr hne h
theorem pS2 {α : Type} (l : List α) (i : Nat) (x : α) : l.toArray.setIfInBounds i x = (l.set i x).toArray := List.setIfInBounds_toArray l i x
theorem pS3 {α : Type} (x y : α) (l : List α) : (x :: l).set 0 y = y :: l := rfl
theorem pS4 {α : Type} (x y : α) (l : List α) (i : Nat) : (x :: l).set (i + 1) y = x :: l.set i y := rfl
/-- The same, the value found by the way. -/
theorem zW (i : Nat) (hS : S w) {v : Value} (h : wpAnyH P md ops Q S fuel (listed.setIfInBounds i true) (a.put oi.dst v) w)
    (hi : nth ops.toList i = some oi := by rfl) (hy : ∀ w, S w → (execOp a.eval oi).run P w = .ok (.value v) w := by (intro wq sq; repeat (obtain ⟨_, sq⟩ := sq)); go_simp; try with_reducible rfl)
    (hs : Region.noSelect ops = true := by kernel_rfl) (hf : Region.free md ops listed i = true := by kernel_rfl) (hr : (Region.ready md ops listed).contains i = true := by kernel_rfl)
    (hQ : ∀ c a w, Q (.panic c) (a.put oi.dst v) w → Q (.panic c) a w := by exact fun _ _ _ h => h) (hw : Region.wanted oi (yielded ops a.tmps) = true := by rfl) : wpAnyH P md ops Q S (fuel + 1) listed a w :=
  takeW v (nth_arr hi) hs hf hr hQ hw hy hS h
/-- The next state is held. -/
theorem zK {R K : Act → World → Prop} (hK : Shut (∀ a w, S w → (S w → R a w) → K a w)) (h : S w → R a w) (hS : S w := by first | with_reducible assumption | exact True.intro | assumption) : K a w := hK.out a w hS h
/-- How a state is written. -/
theorem pA : (∀ (t : Array Value) (d : List Deferred) (i : Tmp) (v : Value), (⟨t, d⟩ : Act).put (some i) v = ⟨t.setIfInBounds i v, d⟩) ∧ (∀ (a : Act) (v : Value), a.put none v = a) ∧ (∀ (l : List Value) (i : Nat) (x : Value), l.toArray.setIfInBounds i x = (l.set i x).toArray) ∧ (∀ (l : List Bool) (i : Nat) (x : Bool), l.toArray.setIfInBounds i x = (l.set i x).toArray) ∧ (∀ (x y : Value) (l : List Value), (x :: l).set 0 y = y :: l) ∧ (∀ (x y : Bool) (l : List Bool), (x :: l).set 0 y = y :: l) ∧ (∀ (x y : Value) (l : List Value) (i : Nat), (x :: l).set (i + 1) y = x :: l.set i y) ∧ (∀ (x y : Bool) (l : List Bool) (i : Nat), (x :: l).set (i + 1) y = x :: l.set i y) :=
  ⟨fun _ _ _ _ => rfl, fun _ _ => rfl, fun l i x => List.setIfInBounds_toArray l i x, fun l i x => List.setIfInBounds_toArray l i x, fun _ _ _ => rfl, fun _ _ _ => rfl, fun _ _ _ _ => rfl, fun _ _ _ _ => rfl⟩
/-- The same, the next state written out. -/
theorem zV (i : Nat) (hS : S w) {v : Value} {a' : Act} {ls : Array Bool} (h : wpAnyH P md ops Q S fuel ls a' w)
    (hi : nth ops.toList i = some oi := by rfl) (hy : ∀ w, S w → (execOp a.eval oi).run P w = .ok (.value v) w := by (intro wq sq; repeat (obtain ⟨_, sq⟩ := sq)); go_simp; try with_reducible rfl)
    (hs : Region.noSelect ops = true := by kernel_rfl) (hf : Region.free md ops listed i = true := by kernel_rfl) (hr : (Region.ready md ops listed).contains i = true := by kernel_rfl)
    (hQ : ∀ c a w, Q (.panic c) (a.put oi.dst v) w → Q (.panic c) a w := by exact fun _ _ _ h => h) (hw : Region.wanted oi (yielded ops a.tmps) = true := by rfl)
    (ha : a.put oi.dst v = a' := by (try simp only [pA]); rfl) (hl : listed.setIfInBounds i true = ls := by (try simp only [pA]); rfl) : wpAnyH P md ops Q S (fuel + 1) listed a w :=
  takeW v (nth_arr hi) hs hf hr hQ hw hy hS (ha ▸ hl ▸ h)
/-- The same, whether its guard says yes or no. -/
theorem zT (i : Nat) (hS : S w) {v : Value} {a' : Act} {ls : Array Bool} (h : wpAnyH P md ops Q S fuel ls a' w)
    (hi : nth ops.toList i = some oi := by rfl)
    (hy : YieldsIf P ops S oi v a := by first | exact .inr ⟨by rfl, by rfl⟩ | exact .inl ⟨by rfl, by (intro wq sq; repeat (obtain ⟨_, sq⟩ := sq)); go_simp; try with_reducible rfl⟩)
    (hs : Region.noSelect ops = true := by kernel_rfl) (hf : Region.free md ops listed i = true := by kernel_rfl) (hr : (Region.ready md ops listed).contains i = true := by kernel_rfl)
    (hQ : ∀ c a w, Q (.panic c) (a.put oi.dst v) w → Q (.panic c) a w := by exact fun _ _ _ h => h)
    (ha : a.put oi.dst v = a' := by (try simp only [pA]); rfl) (hl : listed.setIfInBounds i true = ls := by (try simp only [pA]); rfl) : wpAnyH P md ops Q S (fuel + 1) listed a w :=
  wpAnyH_take (nth_arr hi) hs hf hr hQ hy hS (ha ▸ hl ▸ h)
theorem zX {K : Act → World → Prop} (hK : Shut (∀ a w, S w → (S w → wpAnyH P md ops Q S fuel (listed.setIfInBounds i true) a w) → K a w)) {a' : Act} {ls : Array Bool} (h : S w → wpAnyH P md ops Q S fuel ls a' w)
    (hS : S w := by first | with_reducible assumption | exact True.intro | assumption) (ha : a = a' := by (try simp only [pA]); rfl) (hl : listed.setIfInBounds i true = ls := by (try simp only [pA]); rfl) : K a w := hK.out a w hS (ha ▸ hl ▸ h)
theorem rB2 (i j : Nat) {o p : Oper} (h : ∀ K' : Act → World → Prop, Shut (∀ a w, S w → (S w → wpAnyH P md ops Q S fuel (listed.setIfInBounds i true) a w) → K' a w) → if Region.wanted o (yielded ops a.tmps) = true then Oper.wp P o a w K' Q else K' (a.put o.dst undef) w)
    (h2 : ∀ K' : Act → World → Prop, Shut (∀ a w, S w → (S w → wpAnyH P md ops Q S fuel (listed.setIfInBounds j true) a w) → K' a w) → if Region.wanted p (yielded ops a.tmps) = true then Oper.wp P p a w K' Q else K' (a.put p.dst undef) w)
    (ho : nth ops.toList i = some o := by rfl) (hp : nth ops.toList j = some p := by rfl) (hr : Region.ready md ops listed = [i, j] := by kernel_rfl) : wpAnyH P md ops Q S (fuel + 1) listed a w :=
  rD [i, j] (aC h (aC h2 AllReadyH.nil hp) ho) hr (by simp)
theorem dN {fuel : Nat} (h : Q .normal a w) (hr : Region.ready md ops listed = [] := by kernel_rfl) : wpAnyH P md ops Q S fuel listed a w := wpAnyH_done hr h fuel
/-- What makes memory, its guard saying no. -/
theorem effU {p q : Prop} {o : Oper} (hw : Region.wanted o (yielded ops a.tmps) = false) (h : q) : if Region.wanted o (yielded ops a.tmps) = true then p else q := by
  rw [if_neg (by rw [hw]; decide)]; exact h
end
end Go.Proofs.Ythhfjbhopenchaa
