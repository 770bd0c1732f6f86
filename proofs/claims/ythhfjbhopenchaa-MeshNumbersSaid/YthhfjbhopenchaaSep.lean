/- Things in memory that a function keeps track of, in one list: each lies in a block of its own. No program is named. -/
import Derived.Test.YthhfjbhopenchaaKit
import Derived.Test.YthhfjbhopenchaaKitApp
import Derived.Test.YthhfjbhopenchaaTape
namespace Go.Proofs.Ythhfjbhopenchaa
open Go.RowKit

/-- own: a list of numbers of the call's own (it may grow, be stored to); row: a list of values of one's own, each of k cells; box: a block of cells; ints, vals: lists that lie in memory that was there when the call began; tape: a tape that was made first of all. -/
inductive Chunk
  | own (e : TypeId) (v : Value) (n : Nat) (xs : List Int)
  | row (e : TypeId) (k : Nat) (v : Value) (n : Nat) (us : List Value)
  | box (g : Nat) (t : TypeId) (vs : List Value)
  | ints (A : Option Addr) (n : Nat) (xs : List Int)
  | vals (A : Option Addr) (n k : Nat) (us : List Value)
  | tape (g : Nat)

def Chunk.block : Chunk → Option Nat
  | .own _ v _ _ => v.ownBlock
  | .row _ _ v _ _ => v.ownBlock
  | .box g _ _ => some g
  | .ints _ _ _ => none
  | .vals _ _ _ _ => none
  | .tape g => some g

/-- The slice value '.slice A n _', of elements of k cells, reads as the values us. -/
def ValsK (w : World) (A : Option Addr) (n k : Nat) (us : List Value) : Prop :=
  us.length = n * k ∧ (0 < n → ∃ ad, A = some ad ∧ ad.block < w.heap.size ∧ ∀ j u, us[j]? = some u → w.cell? (ad.add j) = some u)
theorem ValsK.grown {w w' : World} {row : Option Nat} {A : Option Addr} {n k : Nat} {us : List Value} (h : ValsK w A n k us) (hg : w.grownBy w' row) (hne : ∀ ad, A = some ad → 0 < n → some ad.block ≠ row) : ValsK w' A n k us :=
  ⟨h.1, fun hn => by
    obtain ⟨ad, e, hl, hc⟩ := h.2 hn
    exact ⟨ad, e, Nat.lt_of_lt_of_le hl hg.size, fun j u hu => hg.cell (hc j u hu) (by rw [block_of_add]; exact hne ad e hn)⟩⟩

def Chunk.holds (w : World) (base : Nat) : Chunk → Prop
  | .own e v n xs => OwnS w base e v n xs
  | .row e k v n us => w.ownsRow base e k v n us
  | .box g t vs => base ≤ g ∧ w.heap[g]? = some (.cells vs.toArray t (0, 0))
  | .ints A n xs => Ints w A n xs ∧ ∀ ad, A = some ad → 0 < n → ad.block < base
  | .vals A n k us => ValsK w A n k us ∧ ∀ ad, A = some ad → 0 < n → ad.block < base
  | .tape g => Tape w g ∧ g = base

theorem lt_of_heap {w : World} {g : Nat} {o : Obj} (h : w.heap[g]? = some o) : g < w.heap.size := by
  rcases Nat.lt_or_ge g w.heap.size with h' | h'
  · exact h'
  · rw [Array.getElem?_eq_none h'] at h; cases h

theorem Chunk.block_ge {w : World} {base : Nat} {c : Chunk} (h : c.holds w base) {k : Nat} (hk : c.block = some k) : base ≤ k ∧ k < w.heap.size := by
  cases c with
  | own e v n xs => exact h.1.lt k hk
  | row e m v n us => exact World.ownsRow.lt h k hk
  | box g t vs => injection hk with hk; subst hk; exact ⟨h.1, lt_of_heap h.2⟩
  | ints A n xs => cases hk
  | vals A n k us => cases hk
  | tape g => injection hk with hk; subst hk; exact ⟨by have := h.2; omega, h.1.lt⟩

theorem Chunk.kept {w w' : World} {base : Nat} {c : Chunk} {row : Option Nat} (h : c.holds w base) (hg : w.grownBy w' row) (hb : ∀ r, row = some r → base ≤ r) (hne : ∀ k, c.block = some k → row ≠ some k) : c.holds w' base := by
  cases c with
  | own e v n xs => exact OwnS.grownNe h hg fun k hk he => hne k hk he.symm
  | row e m v n us =>
    refine World.ownsRow.kept h hg ?_
    cases hv : v.ownBlock with
    | none => exact .inl rfl
    | some k => exact .inr fun he => hne k hv he.symm
  | box g t vs => exact ⟨h.1, (hg.block g (lt_of_heap h.2) (fun he => hne g rfl he.symm)).trans h.2⟩
  | ints A n xs => exact ⟨h.1.grown hg fun ad he hn e => by have := h.2 ad he hn; have := hb _ e.symm; omega, h.2⟩
  | vals A n k us => exact ⟨h.1.grown hg fun ad he hn e => by have := h.2 ad he hn; have := hb _ e.symm; omega, h.2⟩
  | tape g =>
    obtain ⟨ht, hgb⟩ := h
    have hl := ht.lt
    obtain ⟨A, n, c, at_, xs, h1, ha, hI, hn⟩ := ht
    exact ⟨⟨A, n, c, at_, xs, (hg.block g hl (fun he => hne g rfl he.symm)).trans h1, ha, hI.grown hg (fun ad he hp e => by have := hn ad he hp; have := hb _ e.symm; omega), hn⟩, hgb⟩

def Apart (a b : Chunk) : Prop := ∀ k, a.block = some k → b.block ≠ some k
theorem Apart.symm {a b : Chunk} (h : Apart a b) : Apart b a := fun k hb ha => h k ha hb

/-- All of them in the world w of a call that began in w0: what was there at w0 has not changed. -/
def Sep (w0 w : World) (l : List Chunk) : Prop :=
  Below w0.heap.size w0 w ∧ (∀ (i : Nat) (c : Chunk), l[i]? = some c → c.holds w w0.heap.size) ∧ (∀ (i j : Nat) (a b : Chunk), i ≠ j → l[i]? = some a → l[j]? = some b → Apart a b)

section
variable {w0 w w' : World} {l : List Chunk}
theorem Sep.base (h : Sep w0 w l) : Below w0.heap.size w0 w := h.1
theorem Sep.at_ (h : Sep w0 w l) (i : Nat) {c : Chunk} (hi : l[i]? = some c) : c.holds w w0.heap.size := h.2.1 i c hi
theorem Sep.size (h : Sep w0 w l) : w0.heap.size ≤ w.heap.size := h.1.size
theorem Sep.nil (w : World) : Sep w w [] := ⟨Below.refl _ _, (fun i c hi => by simp at hi), (fun i j a b _ hi => by simp at hi)⟩

theorem Sep.cons_ {c : Chunk} (hB : Below w0.heap.size w0 w) (hc : c.holds w w0.heap.size) (hl : ∀ (i : Nat) (d : Chunk), l[i]? = some d → d.holds w w0.heap.size) (ha : ∀ (i : Nat) (d : Chunk), l[i]? = some d → Apart c d) (hp : ∀ (i j : Nat) (a b : Chunk), i ≠ j → l[i]? = some a → l[j]? = some b → Apart a b) :
    Sep w0 w (c :: l) :=
  ⟨hB, (fun i d hi => by
    cases i with
    | zero => simp at hi; subst hi; exact hc
    | succ i => exact hl i d (by simpa using hi)), (fun i j a b hij hi hj => by
    cases i with
    | zero =>
      simp at hi; subst hi
      cases j with
      | zero => exact absurd rfl hij
      | succ j => exact ha j b (by simpa using hj)
    | succ i =>
      cases j with
      | zero => simp at hj; subst hj; exact (ha i a (by simpa using hi)).symm
      | succ j => exact hp i j a b (by omega) (by simpa using hi) (by simpa using hj))⟩

/-- A list that was there when the call began. -/
theorem Sep.old {A : Option Addr} {n : Nat} {xs : List Int} (h : Sep w w l) (hI : Ints w A n xs) : Sep w w (.ints A n xs :: l) :=
  Sep.cons_ h.1 ⟨hI, fun ad he hn => by
    obtain ⟨ad', e', hb, _⟩ := hI.2.2.2 hn
    rw [e'] at he; injection he with he; subst he; exact hb⟩ h.2.1 (fun i d hi k hk => by cases hk) h.2.2
theorem Sep.oldV {A : Option Addr} {n k : Nat} {us : List Value} (h : Sep w w l) (hI : ValsK w A n k us) : Sep w w (.vals A n k us :: l) :=
  Sep.cons_ h.1 ⟨hI, fun ad he hn => by
    obtain ⟨ad', e', hb, _⟩ := hI.2 hn
    rw [e'] at he; injection he with he; subst he; exact hb⟩ h.2.1 (fun i d hi k hk => by cases hk) h.2.2

/-- A call, an allocation: new memory only. -/
theorem Sep.below (h : Sep w0 w l) (hb : Below w.heap.size w w') : Sep w0 w' l :=
  ⟨then_ h.1 hb, (fun i c hi => Chunk.kept (row := none) (h.2.1 i c hi) (grown_of_below hb none) (by simp) (by simp)), h.2.2⟩
theorem Sep.drewN (h : Sep w0 w l) (k : Nat) : Sep w0 (w.drewN k) l := h.below (below_drewN (Below.refl _ _) k)
theorem Sep.drew (h : Sep w0 w l) : Sep w0 w.drew l := h.drewN 1

/-- What lies in new memory comes on. -/
theorem Sep.push {c : Chunk} (h : Sep w0 w l) (hb : Below w.heap.size w w') (hc : c.holds w' w0.heap.size) (hn : ∀ k, c.block = some k → w.heap.size ≤ k) : Sep w0 w' (c :: l) := by
  have h' := h.below hb
  exact Sep.cons_ h'.1 hc h'.2.1 (fun i d hi k hk hd => by have := hn k hk; have := (Chunk.block_ge (h.2.1 i d hi) hd).2; omega) h.2.2
theorem Sep.addOwn {e : TypeId} {v : Value} {n : Nat} {xs : List Int} (h : Sep w0 w l) (hb : Below w.heap.size w w') (ho : OwnS w' w.heap.size e v n xs) : Sep w0 w' (.own e v n xs :: l) :=
  h.push hb (ho.mono h.size) fun k hk => (ho.1.lt k hk).1
theorem Sep.addOwn2 {e e' : TypeId} {v v' : Value} {n n' : Nat} {xs xs' : List Int} (h : Sep w0 w l) (hb : Below w.heap.size w w') (ho : OwnS w' w.heap.size e v n xs) (ho' : OwnS w' w.heap.size e' v' n' xs') (hne : e' ≠ e) : Sep w0 w' (.own e v n xs :: .own e' v' n' xs' :: l) := by
  have h1 := h.addOwn hb ho'
  refine Sep.cons_ h1.1 (ho.mono h.size) h1.2.1 (fun i d hi k hk hd => ?_) h1.2.2
  cases i with
  | zero =>
    simp at hi; subst hi
    obtain ⟨cs, hx⟩ := ho.blk hk
    exact ho'.apart hx hne k hd rfl
  | succ i =>
    have := (ho.1.lt k hk).1
    have := (Chunk.block_ge (h.2.1 i d (by simpa using hi)) hd).2
    omega
theorem Sep.allocBox (h : Sep w0 w l) (g : Nat) (t : TypeId) (vs : List Value) (hg : w.heap.size = g) : Sep w0 (w.alloc (.cells vs.toArray t)) (.box g t vs :: l) := by
  subst hg
  exact h.push ((Below.refl _ _).alloc (Nat.le_refl _) _) ⟨h.size, heap_alloc_new w _⟩ fun k hk => by injection hk with hk; omega
/-- Less of them, or in another order. -/
theorem Sep.sub {l' : List Chunk} (h : Sep w0 w l) (f : List Nat) (hf : f.map (fun i : Nat => l[i]?) = l'.map some) (hd : f.Nodup) : Sep w0 w l' := by
  have key : ∀ (i : Nat) (c : Chunk), l'[i]? = some c → ∃ k : Nat, f[i]? = some k ∧ l[k]? = some c := by
    intro i c hi
    have : (f.map (fun i : Nat => l[i]?))[i]? = some (some c) := by rw [hf, List.getElem?_map, hi]; rfl
    rw [List.getElem?_map, Option.map_eq_some_iff] at this
    exact this
  refine ⟨h.1, fun i c hi => ?_, fun i j a b hij hi hj => ?_⟩
  · obtain ⟨k, _, hk⟩ := key i c hi
    exact h.2.1 k c hk
  · obtain ⟨k, hfk, hk⟩ := key i a hi
    obtain ⟨m, hfm, hm⟩ := key j b hj
    refine h.2.2 k m a b (fun e => ?_) hk hm
    subst e
    exact hij ((List.getElem?_inj (List.getElem?_eq_some_iff.1 hfk).1 hd).1 (hfk.trans hfm.symm))

/-- One of them changed, the others not. -/
theorem Sep.change {c d : Chunk} (h : Sep w0 w l) (i : Nat) (hi : l[i]? = some c) (hg : w.grownBy w' c.block) (hd : d.holds w' w0.heap.size) (hb : ∀ k, d.block = some k → c.block = some k ∨ w.heap.size ≤ k) : Sep w0 w' (l.set i d) := by
  have hc := h.2.1 i c hi
  have hil : i < l.length := (List.getElem?_eq_some_iff.1 hi).1
  have other : ∀ (j : Nat) (a : Chunk), j ≠ i → l[j]? = some a → Apart d a := fun j a hj ha k hk hak => by
    rcases hb k hk with e | e
    · exact h.2.2 i j c a (Ne.symm hj) hi ha k e hak
    · have := (Chunk.block_ge (h.2.1 j a ha) hak).2; omega
  refine ⟨h.1.grown hg h.size fun k hk => (Chunk.block_ge hc hk).1, fun j a hj => ?_, fun j m a b hjm hj hm => ?_⟩
  · rw [List.getElem?_set] at hj
    by_cases e : i = j
    · subst e; rw [if_pos rfl, if_pos hil] at hj; injection hj with hj; subst hj; exact hd
    · rw [if_neg e] at hj
      exact Chunk.kept (h.2.1 j a hj) hg (fun r hr => (Chunk.block_ge hc hr).1) fun k hk hr => h.2.2 i j c a e hi hj k hr hk
  · rw [List.getElem?_set] at hj hm
    by_cases e : i = j
    · subst e
      rw [if_pos rfl, if_pos hil] at hj; injection hj with hj; subst hj
      rw [if_neg hjm] at hm
      exact other m b (Ne.symm hjm) hm
    · rw [if_neg e] at hj
      by_cases e' : i = m
      · subst e'
        rw [if_pos rfl, if_pos hil] at hm; injection hm with hm; subst hm
        exact (other j a (Ne.symm e) hj).symm
      · rw [if_neg e'] at hm
        exact h.2.2 j m a b hjm hj hm

/-- 'xs[j] = x' -/
theorem Sep.store {e : TypeId} {g n c : Nat} {xs : List Int} (h : Sep w0 w l) (i j : Nat) {x : Int} (hx : Fits x) (hi : l[i]? = some (.own e (.slice (some ⟨g, 0, none⟩) n c) n xs)) :
    Sep w0 (w.setCell ⟨g, j, none⟩ (.int .i64 x)) (l.set i (.own e (.slice (some ⟨g, 0, none⟩) n c) n (xs.set j x))) := by
  have ho : Own w w0.heap.size e g n c xs := h.2.1 i _ hi
  exact h.change i hi (grown_setCell w g j _) (ho.store j hx) fun k hk => .inl hk
/-- A cell of a box. -/
theorem Sep.setBox {g : Nat} {t : TypeId} {vs : List Value} (h : Sep w0 w l) (i j : Nat) (v : Value) (hi : l[i]? = some (.box g t vs)) :
    Sep w0 (w.setCell ⟨g, j, none⟩ v) (l.set i (.box g t (vs.set j v))) := by
  obtain ⟨hg, hh⟩ := h.2.1 i _ hi
  refine h.change i hi (grown_setCell w g j _) ⟨hg, ?_⟩ fun k hk => .inl hk
  have := heap_setCell_same w g j vs.toArray t v hh
  simpa using this
/-- 's = append(s, ..)' -/
theorem Sep.grow {e e' : TypeId} {v v' : Value} {n n' : Nat} {xs xs' : List Int} (h : Sep w0 w l) (i : Nat) (hi : l[i]? = some (.own e v n xs)) (hg : w.grownBy w' v.ownBlock) (ho : OwnS w' w0.heap.size e' v' n' xs') (hv : v'.ownBlock = v.ownBlock ∨ v'.ownBlock = some w.heap.size) :
    Sep w0 w' (l.set i (.own e' v' n' xs')) :=
  h.change i hi hg ho fun k hk => by
    have hk : v'.ownBlock = some k := hk
    rcases hv with e | e
    · exact .inl (e.symm.trans hk)
    · rw [e] at hk; injection hk with hk; exact .inr (by omega)

theorem set_eq {α : Type} {l : List α} {i : Nat} {x : α} (h : l[i]? = some x) : l.set i x = l := by
  apply List.ext_getElem?
  intro j
  rw [List.getElem?_set]
  by_cases hj : i = j
  · subst hj; rw [if_pos rfl, h, if_pos (List.getElem?_eq_some_iff.1 h).1]
  · rw [if_neg hj]
/-- The tape was read. -/
theorem Sep.read {g : Nat} (h : Sep w0 w l) (i : Nat) (hi : l[i]? = some (.tape g)) (hr : Read w g w') : Sep w0 w' l := by
  have := h.change i hi hr.2 (d := .tape g) ⟨hr.1, (h.2.1 i _ hi).2⟩ (fun k hk => .inl hk)
  rwa [set_eq hi] at this
theorem Sep.tape (h : Sep w0 w l) (i : Nat) {g : Nat} (hi : l[i]? = some (.tape g)) : Tape w g := (h.2.1 i _ hi).1
/-- What lies in memory that is new since w comes to what is kept at w'. -/
theorem Sep.pushNew {c : Chunk} (h : Sep w0 w l) (h' : Sep w0 w' l) (hc : c.holds w' w0.heap.size) (hn : ∀ k, c.block = some k → w.heap.size ≤ k) : Sep w0 w' (c :: l) :=
  Sep.cons_ h'.1 hc h'.2.1 (fun i d hi k hk hd => by have := hn k hk; have := (Chunk.block_ge (h.2.1 i d hi) hd).2; omega) h.2.2
theorem Sep.readOwn {g n : Nat} {e : TypeId} {v : Value} {xs : List Int} (h : Sep w0 w l) (i : Nat) (hi : l[i]? = some (.tape g)) (hr : Read w g w') (ho : OwnS w' w.heap.size e v n xs) : Sep w0 w' (.own e v n xs :: l) :=
  h.pushNew (h.read i hi hr) (ho.mono h.size) fun k hk => (ho.1.lt k hk).1
theorem Sep.readOwn2 {g n n' : Nat} {e e' : TypeId} {v v' : Value} {xs xs' : List Int} (h : Sep w0 w l) (i : Nat) (hi : l[i]? = some (.tape g)) (hr : Read w g w') (ho : OwnS w' w.heap.size e v n xs) (ho' : OwnS w' w.heap.size e' v' n' xs') (hne : e' ≠ e) : Sep w0 w' (.own e v n xs :: .own e' v' n' xs' :: l) := by
  have h1 := h.readOwn i hi hr ho'
  refine Sep.cons_ h1.1 (ho.mono h.size) h1.2.1 (fun j d hj k hk hd => ?_) h1.2.2
  cases j with
  | zero =>
    simp at hj; subst hj
    obtain ⟨cs, hx⟩ := ho.blk hk
    exact ho'.apart hx hne k hd rfl
  | succ j =>
    have := (ho.1.lt k hk).1
    have := (Chunk.block_ge (h.2.1 j d (by simpa using hj)) hd).2
    omega
/-- A law begins: its tape is the first thing that it makes. -/
theorem Sep.startTape {g : Nat} {o : Obj} (hg : w.heap.size = g) (ht : Tape (w.alloc o) g) : Sep w (w.alloc o) [.tape g] :=
  Sep.cons_ ((Below.refl _ _).alloc (Nat.le_refl _) _) ⟨ht, hg.symm⟩ (fun i d hi => by simp at hi) (fun i d hi => by simp at hi) (fun i j a b _ hi => by simp at hi)

/-- What the walk reads. -/
theorem Sep.cell (h : Sep w0 w l) (i j : Nat) {g : Nat} {t : TypeId} {vs : List Value} {v : Value} (hi : l[i]? = some (.box g t vs)) (hj : vs[j]? = some v) : w.cell? ⟨g, j, none⟩ = some v :=
  cell_of_row _ _ j _ _ _ (h.2.1 i _ hi).2 |>.trans (by simpa using hj)
theorem Sep.c (h : Sep w0 w l) (i j : Nat) {g : Nat} {t : TypeId} {vs : List Value} {v : Value} (hi : l[i]? = some (.box g t vs) := by rfl) (hj : vs[j]? = some v := by rfl) : w.cell? ⟨g, j, none⟩ = some v := h.cell i j hi hj
theorem Sep.cells4 (h : Sep w0 w l) (i : Nat) {g : Nat} {t : TypeId} {v0 v1 v2 v3 : Value} (hi : l[i]? = some (.box g t [v0, v1, v2, v3])) : w.cell? ⟨g, 0, none⟩ = some v0 ∧ w.cell? ⟨g, 1, none⟩ = some v1 ∧ w.cell? ⟨g, 2, none⟩ = some v2 ∧ w.cell? ⟨g, 3, none⟩ = some v3 :=
  ⟨h.cell i 0 hi rfl, h.cell i 1 hi rfl, h.cell i 2 hi rfl, h.cell i 3 hi rfl⟩
theorem Sep.cells7 (h : Sep w0 w l) (i : Nat) {g : Nat} {t : TypeId} {v0 v1 v2 v3 v4 v5 v6 : Value} (hi : l[i]? = some (.box g t [v0, v1, v2, v3, v4, v5, v6])) : w.cell? ⟨g, 0, none⟩ = some v0 ∧ w.cell? ⟨g, 1, none⟩ = some v1 ∧ w.cell? ⟨g, 2, none⟩ = some v2 ∧ w.cell? ⟨g, 3, none⟩ = some v3 ∧ w.cell? ⟨g, 4, none⟩ = some v4 ∧ w.cell? ⟨g, 5, none⟩ = some v5 ∧ w.cell? ⟨g, 6, none⟩ = some v6 :=
  ⟨h.cell i 0 hi rfl, h.cell i 1 hi rfl, h.cell i 2 hi rfl, h.cell i 3 hi rfl, h.cell i 4 hi rfl, h.cell i 5 hi rfl, h.cell i 6 hi rfl⟩
theorem Sep.frozenBox (h : Sep w0 w l) (i j : Nat) {g : Nat} {t : TypeId} {vs : List Value} (hi : l[i]? = some (.box g t vs)) : w.frozen? ⟨g, j, none⟩ = false :=
  frozen_of_row _ _ j _ _ (h.2.1 i _ hi).2
theorem Sep.z2 (h : Sep w0 w l) (i : Nat) {g : Nat} {t : TypeId} {v0 v1 : Value} {vs : List Value} (hi : l[i]? = some (.box g t (v0 :: v1 :: vs))) : w.cell? ⟨g, 0, none⟩ = some v0 ∧ w.cell? ⟨g, 1, none⟩ = some v1 := ⟨h.cell i 0 hi rfl, h.cell i 1 hi rfl⟩
theorem Sep.z3 (h : Sep w0 w l) (i : Nat) {g : Nat} {t : TypeId} {v0 v1 v2 : Value} {vs : List Value} (hi : l[i]? = some (.box g t (v0 :: v1 :: v2 :: vs))) : w.cell? ⟨g, 0, none⟩ = some v0 ∧ w.cell? ⟨g, 1, none⟩ = some v1 ∧ w.cell? ⟨g, 2, none⟩ = some v2 := ⟨h.cell i 0 hi rfl, h.cell i 1 hi rfl, h.cell i 2 hi rfl⟩
theorem Sep.z4 (h : Sep w0 w l) (i : Nat) {g : Nat} {t : TypeId} {v0 v1 v2 v3 : Value} {vs : List Value} (hi : l[i]? = some (.box g t (v0 :: v1 :: v2 :: v3 :: vs))) : w.cell? ⟨g, 0, none⟩ = some v0 ∧ w.cell? ⟨g, 1, none⟩ = some v1 ∧ w.cell? ⟨g, 2, none⟩ = some v2 ∧ w.cell? ⟨g, 3, none⟩ = some v3 := ⟨h.cell i 0 hi rfl, h.cell i 1 hi rfl, h.cell i 2 hi rfl, h.cell i 3 hi rfl⟩
theorem Sep.z5 (h : Sep w0 w l) (i : Nat) {g : Nat} {t : TypeId} {v0 v1 v2 v3 v4 : Value} {vs : List Value} (hi : l[i]? = some (.box g t (v0 :: v1 :: v2 :: v3 :: v4 :: vs))) : w.cell? ⟨g, 0, none⟩ = some v0 ∧ w.cell? ⟨g, 1, none⟩ = some v1 ∧ w.cell? ⟨g, 2, none⟩ = some v2 ∧ w.cell? ⟨g, 3, none⟩ = some v3 ∧ w.cell? ⟨g, 4, none⟩ = some v4 := ⟨h.cell i 0 hi rfl, h.cell i 1 hi rfl, h.cell i 2 hi rfl, h.cell i 3 hi rfl, h.cell i 4 hi rfl⟩
theorem Sep.f2 (h : Sep w0 w l) (i : Nat) {g : Nat} {t : TypeId} {vs : List Value} (hi : l[i]? = some (.box g t vs)) : w.frozen? ⟨g, 0, none⟩ = false ∧ w.frozen? ⟨g, 1, none⟩ = false := ⟨h.frozenBox i 0 hi, h.frozenBox i 1 hi⟩
theorem Sep.f4 (h : Sep w0 w l) (i : Nat) {g : Nat} {t : TypeId} {vs : List Value} (hi : l[i]? = some (.box g t vs)) : w.frozen? ⟨g, 0, none⟩ = false ∧ w.frozen? ⟨g, 1, none⟩ = false ∧ w.frozen? ⟨g, 2, none⟩ = false ∧ w.frozen? ⟨g, 3, none⟩ = false := ⟨h.frozenBox i 0 hi, h.frozenBox i 1 hi, h.frozenBox i 2 hi, h.frozenBox i 3 hi⟩
theorem Sep.f7 (h : Sep w0 w l) (i : Nat) {g : Nat} {t : TypeId} {vs : List Value} (hi : l[i]? = some (.box g t vs)) : w.frozen? ⟨g, 0, none⟩ = false ∧ w.frozen? ⟨g, 1, none⟩ = false ∧ w.frozen? ⟨g, 2, none⟩ = false ∧ w.frozen? ⟨g, 3, none⟩ = false ∧ w.frozen? ⟨g, 4, none⟩ = false ∧ w.frozen? ⟨g, 5, none⟩ = false ∧ w.frozen? ⟨g, 6, none⟩ = false := ⟨h.frozenBox i 0 hi, h.frozenBox i 1 hi, h.frozenBox i 2 hi, h.frozenBox i 3 hi, h.frozenBox i 4 hi, h.frozenBox i 5 hi, h.frozenBox i 6 hi⟩
/-- No numbers. -/
abbrev oN : Chunk := .own 3 (.slice none 0 0) 0 []
theorem Sep.heap (h : Sep w0 w l) (i : Nat) {g : Nat} {t : TypeId} {vs : List Value} (hi : l[i]? = some (.box g t vs)) : w.heap[g]? = some (.cells vs.toArray t (0, 0)) := (h.2.1 i _ hi).2
theorem Sep.ownS (h : Sep w0 w l) (i : Nat) {e : TypeId} {v : Value} {n : Nat} {xs : List Int} (hi : l[i]? = some (.own e v n xs)) : OwnS w w0.heap.size e v n xs := h.2.1 i _ hi
theorem Sep.own (h : Sep w0 w l) (i : Nat) {e : TypeId} {g n c : Nat} {xs : List Int} (hi : l[i]? = some (.own e (.slice (some ⟨g, 0, none⟩) n c) n xs)) : Own w w0.heap.size e g n c xs := h.2.1 i _ hi
theorem Sep.oldInts (h : Sep w0 w l) (i : Nat) {A : Option Addr} {n : Nat} {xs : List Int} (hi : l[i]? = some (.ints A n xs)) : Ints w A n xs := (h.2.1 i _ hi).1
theorem Sep.ownInts (h : Sep w0 w l) (i : Nat) {e : TypeId} {A : Option Addr} {n m c : Nat} {xs : List Int} (hi : l[i]? = some (.own e (.slice A m c) n xs)) : m = n ∧ m ≤ c ∧ Ints w A n xs := by
  obtain ⟨A', c', hv, hc, hI, _⟩ := OwnS.form (h.2.1 i _ hi)
  injection hv with h1 h2 h3
  subst h1; subst h2; subst h3
  exact ⟨rfl, hc, hI⟩
theorem Sep.blockLt (h : Sep w0 w l) (i : Nat) {g : Nat} {t : TypeId} {vs : List Value} (hi : l[i]? = some (.box g t vs)) : w0.heap.size ≤ g ∧ g < w.heap.size := ⟨(h.2.1 i _ hi).1, lt_of_heap (h.2.1 i _ hi).2⟩
/-- A cell of one thing as it is behind a store into another. -/
theorem Sep.ne (h : Sep w0 w l) (i j : Nat) {a b : Chunk} {k m : Nat} (hi : l[i]? = some a) (hj : l[j]? = some b) (ha : a.block = some k) (hb : b.block = some m) (hij : i ≠ j) : k ≠ m := fun e => by
  subst e; exact h.2.2 i j a b hij hi hj k ha hb
end
end Go.Proofs.Ythhfjbhopenchaa
