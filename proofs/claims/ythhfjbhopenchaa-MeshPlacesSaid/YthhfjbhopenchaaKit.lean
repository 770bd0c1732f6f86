/- Words on memory that every contract of this seat is stated with: a slice value that reads as a list of whole numbers. No program is named. -/
import Derived.WalkKit
import Derived.Deep.AppendLies
import Derived.Deep.Draws
import Derived.Lib.Hide
import Derived.BigQuiet
import Derived.Deep.QuietTactic
import Derived.OpenShut
import Derived.DataElems
namespace Go.Proofs.Ythhfjbhopenchaa
open Go.RowKit

/-- Nought nodes and graphs: the joined texts say them so. -/
abbrev zN : List Value := [.int .i64 0, .slice none 0 0, .slice none 0 0, .slice none 0 0, .int .i64 0, .int .i64 0, .string ⟨#[]⟩]
abbrev zA : Array Value := #[.int .i64 0, .slice none 0 0, .slice none 0 0, .slice none 0 0, .int .i64 0, .int .i64 0, .string ⟨#[]⟩]
abbrev zG : List Value := [.slice none 0 0, .string ⟨#[]⟩, .slice none 0 0, .slice none 0 0]
abbrev zH : Array Value := #[.slice none 0 0, .string ⟨#[]⟩, .slice none 0 0, .slice none 0 0]
theorem Hd {p : Prop} (h : p) : Hid p := h

theorem block_of_add (a : Addr) (n : Nat) : (a.add n).block = a.block := Go.ChangeShapes.block_add a n
theorem add_of_add (a : Addr) (i j : Nat) : (a.add i).add j = a.add (i + j) := Addr.add_add a i j

/-- A number that fits an int. -/
def Fits (x : Int) : Prop := -9223372036854775808 ≤ x ∧ x ≤ 9223372036854775807

/-- The slice value '.slice A n c' reads, in w, as the list xs of numbers of 64 bits. -/
def Ints (w : World) (A : Option Addr) (n : Nat) (xs : List Int) : Prop :=
  xs.length = n ∧ n ≤ 9223372036854775807 ∧ (∀ x ∈ xs, Fits x) ∧
  (0 < n → ∃ ad, A = some ad ∧ ad.block < w.heap.size ∧ ∀ j x, xs[j]? = some x → w.cell? (ad.add j) = some (.int .i64 x))

section
variable {w w' : World} {A : Option Addr} {n : Nat} {xs : List Int}
theorem Ints.len (h : Ints w A n xs) : xs.length = n := h.1
theorem Ints.le (h : Ints w A n xs) : n ≤ 9223372036854775807 := h.2.1
theorem Ints.fit (h : Ints w A n xs) : ∀ x ∈ xs, Fits x := h.2.2.1
theorem Ints.nil_ (w : World) (A : Option Addr) : Ints w A 0 [] := ⟨rfl, by omega, by simp, fun h => absurd h (by omega)⟩
theorem Ints.at_ (h : Ints w A n xs) {k : Nat} (hk : k < n) :
    ∃ ad x, A = some ad ∧ ad.block < w.heap.size ∧ xs[k]? = some x ∧ w.cell? (ad.add k) = some (.int .i64 x) ∧ Fits x := by
  obtain ⟨ad, e, hb, hc⟩ := h.2.2.2 (by omega)
  have hl : k < xs.length := by have := h.1; omega
  exact ⟨ad, xs[k], e, hb, List.getElem?_eq_getElem hl, hc k _ (List.getElem?_eq_getElem hl), h.2.2.1 _ (List.getElem_mem hl)⟩
theorem Ints.get {ad : Addr} (h : Ints w (some ad) n xs) {k : Nat} {x : Int} (hx : xs[k]? = some x) : w.cell? (ad.add k) = some (.int .i64 x) := by
  have hk : k < n := by rw [← h.1]; exact (List.getElem?_eq_some_iff.1 hx).1
  obtain ⟨ad', e, _, hc⟩ := h.2.2.2 (by omega)
  injection e with e
  subst e
  exact hc k x hx
theorem Ints.keep (h : Ints w A n xs) (hs : w.heap.size ≤ w'.heap.size) (hk : ∀ p : Addr, p.block < w.heap.size → w'.cell? p = w.cell? p) : Ints w' A n xs :=
  ⟨h.1, h.2.1, h.2.2.1, fun hn => by
    obtain ⟨ad, e, hb, hc⟩ := h.2.2.2 hn
    exact ⟨ad, e, by omega, fun j u hu => (hk _ (by rw [block_of_add]; exact hb)).trans (hc j u hu)⟩⟩
theorem Ints.grown (h : Ints w A n xs) {row : Option Nat} (hg : w.grownBy w' row) (hne : ∀ ad, A = some ad → 0 < n → some ad.block ≠ row) : Ints w' A n xs :=
  ⟨h.1, h.2.1, h.2.2.1, fun hn => by
    obtain ⟨ad, e, hb, hc⟩ := h.2.2.2 hn
    exact ⟨ad, e, by have := hg.size; omega, fun j u hu => hg.cell (hc j u hu) (by rw [block_of_add]; exact hne ad e hn)⟩⟩
theorem Ints.below (h : Ints w A n xs) (hb : Below w.heap.size w w') : Ints w' A n xs := h.keep hb.size fun _ hp => hb.cell hp
theorem Ints.drew (h : Ints w A n xs) : Ints w.drew A n xs := h
theorem Ints.drewN (h : Ints w A n xs) (k : Nat) : Ints (w.drewN k) A n xs := h
theorem Ints.alloc (h : Ints w A n xs) (o : Obj) : Ints (w.alloc o) A n xs := h.keep (by simp) fun p hp => World.cell?_alloc_lt w o p hp
end

theorem below_drewN {B : Nat} {a w : World} (h : Below B a w) (n : Nat) : Below B a (w.drewN n) := ⟨h.os, h.tape, h.output, h.size, h.block⟩

/-- Nothing that was there has changed from w on; then nothing that was there has changed from w' on. -/
theorem then_ {w w' w2 : World} (h : Below w.heap.size w w') (k : Below w'.heap.size w' w2) : Below w.heap.size w w2 := h.trans (k.mono h.size)
theorem then_drew {w w' : World} (h : Below w.heap.size w w') (k : Nat) : Below w.heap.size w (w'.drewN k) := below_drewN h k

/-- A contract that leaves the world as it is, inside a region that only reads. -/
theorem quietS {P : Program} {f : FuncId} {args : Array Value} {w : World} {n : Nat} {v : Value}
    (h : Calls P f args (w.drewN n) fun e w' => e = .returned v ∧ w.drewN n = w') : Calls P f args (w.drewN n) fun e w' => e = .returned v ∧ ∃ m, w' = w.drewN m :=
  h.mono fun _ _ hh => ⟨hh.1, n, hh.2.symm⟩

theorem grown_drewN (w : World) (k : Nat) (row : Option Nat) : w.grownBy (w.drewN k) row := ⟨rfl, rfl, rfl, Nat.le_refl _, fun _ _ _ => rfl⟩
theorem grown_setCell (w : World) (g i : Nat) (u : Value) : w.grownBy (w.setCell ⟨g, i, none⟩ u) (some g) :=
  ⟨rfl, rfl, rfl, by simp [World.setCell], fun k _ hk => Below.heap_setCell w ⟨g, i, none⟩ u k (fun e => hk (by rw [e]))⟩
theorem grown_of_below {w w' : World} (h : Below w.heap.size w w') (row : Option Nat) : w.grownBy w' row := ⟨h.os, h.tape, h.output, h.size, fun k hk _ => h.block k hk⟩
theorem grown_trans {a b c : World} {row : Option Nat} (h : a.grownBy b row) (k : b.grownBy c row) : a.grownBy c row :=
  ⟨k.os.trans h.os, k.tape.trans h.tape, k.output.trans h.output, Nat.le_trans h.size k.size, fun i hi hne => (k.block i (Nat.lt_of_lt_of_le hi h.size) hne).trans (h.block i hi hne)⟩
/-- A block that lies at or behind the bound may change. -/
theorem below_of_grown {B g : Nat} {w0 w w' : World} (h : Below B w0 w) (hB : B ≤ w.heap.size) (k : w.grownBy w' (some g)) (hg : B ≤ g) : Below B w0 w' :=
  h.grown k hB (fun i hi => by injection hi with hi; omega)

/-- Behind that only what is newer than a has changed. -/
theorem grown_over {a b c : World} {row : Option Nat} (h : a.grownBy b row) (k : Below a.heap.size b c) : a.grownBy c row :=
  ⟨k.os.trans h.os, k.tape.trans h.tape, k.output.trans h.output, Nat.le_trans h.size k.size, fun i hi hne => (k.block i hi).trans (h.block i hi hne)⟩

/-- A row of numbers in memory of the call's own: block g, elements of type e. -/
def Own (w : World) (base : Nat) (e : TypeId) (g n c : Nat) (xs : List Int) : Prop :=
  w.ownsRow base e 1 (.slice (some ⟨g, 0, none⟩) n c) n (xs.map (Value.int .i64)) ∧ (∀ x ∈ xs, Fits x) ∧ n ≤ 9223372036854775807

section
variable {w w' : World} {base g n c : Nat} {e : TypeId} {xs : List Int}
theorem Own.len (h : Own w base e g n c xs) : xs.length = n := by simpa using h.1.1
theorem Own.base_ (h : Own w base e g n c xs) : base ≤ g ∧ g < w.heap.size := h.1.lt g rfl
theorem Own.cap (h : Own w base e g n c xs) : n ≤ c := by
  rcases h.1.2 with ⟨h', _⟩ | ⟨g', c', cur, h', _, _, hnc, _⟩
  · simp at h'
  · simp only [Value.slice.injEq, Option.some.injEq, Addr.mk.injEq, and_true, true_and] at h'
    obtain ⟨rfl, rfl⟩ := h'
    exact hnc
theorem Own.cell (h : Own w base e g n c xs) {j : Nat} {x : Int} (hx : xs[j]? = some x) : w.cell? ⟨g, j, none⟩ = some (.int .i64 x) := by
  have hj : j < n := by rw [← h.len]; exact (List.getElem?_eq_some_iff.1 hx).1
  rw [h.1.cellAt j (by omega), List.getElem?_map, hx]; rfl
theorem Own.blk (h : Own w base e g n c xs) : ∃ cs, w.heap[g]? = some (.cells cs e (0, 0)) := by
  rcases h.1.2 with ⟨h', _⟩ | ⟨g', c', cur, h', _, hh, _⟩
  · simp at h'
  · simp only [Value.slice.injEq, Option.some.injEq, Addr.mk.injEq, and_true, true_and] at h'
    obtain ⟨rfl, rfl⟩ := h'
    exact ⟨cur, hh⟩
theorem Own.frozen (h : Own w base e g n c xs) (j : Nat) : w.frozen? ⟨g, j, none⟩ = false := h.1.frozenAt j
theorem Own.ints (h : Own w base e g n c xs) : Ints w (some ⟨g, 0, none⟩) n xs :=
  ⟨h.len, h.2.2, h.2.1, fun _ => ⟨_, rfl, h.base_.2, fun _ _ hx => by rw [Addr.add_lit, Nat.zero_add]; exact h.cell hx⟩⟩
theorem Own.below (h : Own w base e g n c xs) (hb : Below w.heap.size w w') : Own w' base e g n c xs := by
  refine ⟨h.1.kept (row := none) ⟨hb.os, hb.tape, hb.output, hb.size, fun k hk _ => hb.block k hk⟩ (.inr (by simp [Value.ownBlock])), h.2.1, h.2.2⟩
theorem Own.drewN (h : Own w base e g n c xs) (k : Nat) : Own (w.drewN k) base e g n c xs := h
/-- A store at place j. -/
theorem Own.store (h : Own w base e g n c xs) (j : Nat) {u : Int} (hu : Fits u) : Own (w.setCell ⟨g, j, none⟩ (.int .i64 u)) base e g n c (xs.set j u) := by
  refine ⟨?_, ?_, h.2.2⟩
  · have := (h.1.stored j (.int .i64 u)).1
    rwa [← List.map_set] at this
  · intro x hx
    rcases List.mem_or_eq_of_mem_set hx with hx | rfl
    · exact h.2.1 x hx
    · exact hu
end

/-- A short list of numbers that fit, asked by reckoning. -/
def litOk (xs : List Int) (n : Nat) : Bool := xs.all (fun x => decide (-9223372036854775808 ≤ x) && decide (x ≤ 9223372036854775807)) && decide (xs.length = n) && decide (n ≤ 1000)
/-- A literal list in a new block. -/
theorem ints_lit (w : World) (t : TypeId) (g n : Nat) (cs : Array Value) (xs : List Int) (hg : g = w.heap.size) (hc : cs.toList = xs.map (Value.int .i64)) (h : litOk xs n = true) :
    Ints (w.alloc (.cells cs t)) (some ⟨g, 0, none⟩) n xs := by
  subst hg
  simp only [litOk, Bool.and_eq_true, decide_eq_true_eq, List.all_eq_true] at h
  refine ⟨h.1.2, by omega, fun x hx => h.1.1 x hx, fun _ => ⟨_, rfl, by simp, fun j x hj => ?_⟩⟩
  rw [Addr.add_lit, Nat.zero_add, World.cell?_alloc_at cs t _ j rfl, ← Array.getElem?_toList, hc, List.getElem?_map, hj]
  rfl

/-- What the frame of a law tells of a slice of numbers that came in: it is nil, or it leads to a row of cap cells that holds zs. -/
def IsRow (k : IntKind) (w : World) (a : Option Addr) (len cap : Nat) (zs : List Int) : Prop :=
  (a = none ∧ len = 0 ∧ cap = 0 ∧ zs = []) ∨
  ∃ x, a = some x ∧ len ≤ cap ∧ cap ≤ maxLen ∧ zs.length = cap ∧ (∀ i, i < zs.length → w.cell? (x.add i) = some (.int k (zs.getD i 0))) ∧ ∀ n ∈ zs, (Lit.int k n).wf = true
theorem ints_of_row {w : World} {a : Option Addr} {len cap : Nat} {zs : List Int} (h : IsRow .i64 w a len cap zs) : Ints w a len (zs.take len) := by
  rcases h with ⟨rfl, rfl, rfl, rfl⟩ | ⟨x, rfl, hl, hm, hz, hc, hw⟩
  · exact Ints.nil_ _ _
  · unfold maxLen at hm
    refine ⟨by simp; omega, by omega, fun y hy => bounds_i64 (hw y (List.mem_of_mem_take hy)), fun hn => ⟨x, rfl, ?_, fun j u hu => ?_⟩⟩
    · have := block_lt_of_cell (hc 0 (by omega)); rwa [block_of_add] at this
    · rw [List.getElem?_take] at hu
      split at hu
      · obtain ⟨hj, rfl⟩ := List.getElem?_eq_some_iff.1 hu
        rw [hc j hj]; simp [List.getElem?_eq_getElem hj]
      · cases hu

/-- make([]T, n), T of 64 bits: n noughts. -/
theorem own_make {w w' : World} {e : TypeId} {n : Nat} (hn : n ≤ 9223372036854775807)
    (h : w'.ownsRow w.heap.size e 1 (.slice (some ⟨w.heap.size, 0, none⟩) n n) n (madeCells #[Value.int .i64 0] n).toList) :
    Own w' w.heap.size e w.heap.size n n (List.replicate n 0) := by
  refine ⟨?_, ?_, hn⟩
  · have e1 : (madeCells #[Value.int .i64 0] n).toList = (List.replicate n (0 : Int)).map (Value.int .i64) := (toList_madeCells_one _ _).trans (by simp)
    rwa [e1] at h
  · intro x hx
    rw [List.eq_of_mem_replicate hx]
    exact ⟨by omega, by omega⟩

/-- A slice value of the call's own that was nil or grew by append: it holds the numbers xs. -/
def OwnS (w : World) (base : Nat) (e : TypeId) (v : Value) (n : Nat) (xs : List Int) : Prop :=
  w.ownsRow base e 1 v n (xs.map (Value.int .i64)) ∧ (∀ x ∈ xs, Fits x) ∧ n ≤ 9223372036854775807

section
variable {w w' : World} {base n : Nat} {e : TypeId} {v : Value} {xs : List Int}
theorem OwnS.nil_ (w : World) (base : Nat) (e : TypeId) : OwnS w base e (.slice none 0 0) 0 [] := ⟨World.ownsRow_nil w base e 1, by simp, by omega⟩
theorem OwnS.len (h : OwnS w base e v n xs) : xs.length = n := by simpa using h.1.1
theorem OwnS.grown (h : OwnS w base e v n xs) {g : Nat} (hg : w.grownBy w' (some g)) (hb : g < base) : OwnS w' base e v n xs :=
  ⟨h.1.kept hg (by
    cases hv : v.ownBlock with
    | none => exact .inl rfl
    | some k => right; have := (h.1.lt k hv).1; intro hk; injection hk with hk; omega), h.2.1, h.2.2⟩
theorem OwnS.below (h : OwnS w base e v n xs) (hb : Below w.heap.size w w') : OwnS w' base e v n xs :=
  ⟨h.1.kept (row := none) (grown_of_below hb none) (by cases v.ownBlock with | none => exact .inl rfl | some k => exact .inr (by simp)), h.2.1, h.2.2⟩
theorem OwnS.alloc (h : OwnS w base e v n xs) (o : Obj) : OwnS (w.alloc o) base e v n xs := ⟨h.1.alloc o, h.2.1, h.2.2⟩
theorem OwnS.drew (h : OwnS w base e v n xs) : OwnS w.drew base e v n xs := h
theorem OwnS.drewN (h : OwnS w base e v n xs) (k : Nat) : OwnS (w.drewN k) base e v n xs := h
theorem OwnS.form (h : OwnS w base e v n xs) : ∃ A c, v = .slice A n c ∧ n ≤ c ∧ Ints w A n xs ∧ ∀ ad, A = some ad → base ≤ ad.block := by
  rcases h.1.2 with ⟨rfl, rfl⟩ | ⟨g, c, cur, rfl, hb, hh, hnc, _⟩
  · have : xs = [] := List.eq_nil_of_length_eq_zero h.len
    subst this
    exact ⟨none, 0, rfl, by omega, Ints.nil_ _ _, by simp⟩
  · have hO : Own w base e g n c xs := h
    exact ⟨_, c, rfl, hnc, hO.ints, fun ad he => by injection he with he; subst he; exact hb⟩
theorem OwnS.grownNe (h : OwnS w base e v n xs) {row : Option Nat} (hg : w.grownBy w' row) (hb : ∀ k, v.ownBlock = some k → some k ≠ row) : OwnS w' base e v n xs :=
  ⟨h.1.kept hg (by
    cases hv : v.ownBlock with
    | none => exact .inl rfl
    | some k => exact .inr (hb k hv)), h.2.1, h.2.2⟩
/-- The block of a row of the call's own. -/
theorem OwnS.blk (h : OwnS w base e v n xs) {k : Nat} (hk : v.ownBlock = some k) : ∃ cs, w.heap[k]? = some (.cells cs e (0, 0)) := by
  rcases h.1.2 with ⟨rfl, rfl⟩ | ⟨g, c, cur, rfl, _, hh, _⟩
  · simp [Value.ownBlock] at hk
  · simp only [Value.ownBlock, Option.some.injEq] at hk; subst hk; exact ⟨cur, hh⟩
/-- Blocks whose elements are of unlike types are not one. -/
theorem ne_of_types {w : World} {k k' : Nat} {cs cs' : Array Value} {t t' : TypeId} {f f' : Nat × Nat} (h : w.heap[k]? = some (.cells cs t f)) (h' : w.heap[k']? = some (.cells cs' t' f')) (ht : t ≠ t') : k ≠ k' := by
  rintro rfl
  rw [h] at h'
  injection h' with h'
  injection h' with _ h'
  exact ht h'
theorem ne_blk {g c : Nat} (h : Own w base e g n c xs) {k : Nat} {cs : Array Value} {t : TypeId} {f : Nat × Nat} (hk : w.heap[k]? = some (.cells cs t f)) (ht : e ≠ t) : g ≠ k := by
  obtain ⟨cs', hb⟩ := h.blk
  exact ne_of_types hb hk ht
theorem OwnS.apart (h : OwnS w base e v n xs) {k : Nat} {cs : Array Value} {t : TypeId} {f : Nat × Nat} (hk : w.heap[k]? = some (.cells cs t f)) (ht : e ≠ t) : ∀ j, v.ownBlock = some j → some j ≠ some k := by
  intro j hj he
  obtain ⟨cs', hb⟩ := h.blk hj
  exact ne_of_types hb hk ht (by injection he)
theorem OwnS.mono {base' : Nat} (h : OwnS w base e v n xs) (hb : base' ≤ base) : OwnS w base' e v n xs := by
  refine ⟨⟨h.1.1, ?_⟩, h.2⟩
  rcases h.1.2 with hh | ⟨g, cap, cur, h1, h2, h3⟩
  · exact .inl hh
  · exact .inr ⟨g, cap, cur, h1, Nat.le_trans hb h2, h3⟩
theorem OwnS.own (h : OwnS w base e v n xs) (hn : 0 < n) : ∃ g c, v = .slice (some ⟨g, 0, none⟩) n c ∧ Own w base e g n c xs := by
  rcases h.1.2 with ⟨rfl, rfl⟩ | ⟨g, c, cur, rfl, hb, hh, hnc, _⟩
  · omega
  · exact ⟨g, c, rfl, h⟩
theorem OwnS.block (h : OwnS w base e v n xs) (k : Nat) (hk : v.ownBlock = some k) : base ≤ k := (h.1.lt k hk).1
end

/-- 's = append(s, x)': one number more, on a slice of the call's own. -/
theorem wpList_append_int {P : Program} {w : World} {ops : Array Oper} {rest : List Oper} {o : Oper} {a : Act} {Q : Exit → Act → World → Prop} (hgd : o.guard = none) (s y : Operand) (t e : TypeId)
    (ho : o.op = .call { callee := .builtin .append, args := #[s, y], argTypes := #[t, t] }) (ht : P.underlying t = some (.slice e))
    (hinfo : (P.info? e).map (fun i => (i.zero, i.size, i.bytes)) = some (some (.int .i64 0), 1, 8))
    (base : Nat) (v : Value) (n : Nat) (xs : List Int) (hs : a.eval s = v) (hown : OwnS w base e v n xs) (hb : base ≤ w.heap.size) (x : Int) (hf : Fits x) (c : Nat) (hy : a.eval y = .slice (some ⟨w.heap.size, 0, none⟩) 1 c)
    (hn : n ≤ 17592186044000)
    (h : ∀ v' w', OwnS w' base e v' (n + 1) (xs ++ [x]) → Below base w w' → w.grownBy w' v.ownBlock → wpList P ops Q rest (a.put o.dst v') w') :
    wpList P ops Q (o :: rest) a (w.alloc (.cells #[.int .i64 x] e)) := by
  obtain ⟨i, hi, hz0, hz1, hz2⟩ := info_parts hinfo
  refine wpList_append_own _ hgd s y t ho base e i (.int .i64 0) 1 8 ht hi hz0 hz1 hz2 rfl (by decide) v n _ hs (hown.alloc _).1 ⟨w.heap.size, 0, none⟩ 1 c [.int .i64 x] hy rfl ?_ ?_ (by unfold maxLen; omega) (by omega) (by simp; omega) ?_
  · intro j u hj
    cases j with
    | zero => simp at hj; subst hj; rw [Addr.add_lit, World.cell?_alloc_at _ _ _ _ rfl]; rfl
    | succ j => simp at hj
  · intro u hu; simp at hu; subst hu; rfl
  · intro v' w' ho' hg' _
    have hO : OwnS w' base e v' (n + 1) (xs ++ [x]) := ⟨by simpa using ho', by intro z hz; simp at hz; rcases hz with hz | rfl; exact hown.2.1 z hz; exact hf, by omega⟩
    have hgr : w.grownBy w' v.ownBlock := grown_trans (World.grownBy_alloc w _ _) hg'
    exact h v' w' hO ((Below.refl _ _).grown hgr hb (fun k hk => hown.block k hk)) hgr

/-- What a call that makes nothing but new memory leaves. -/
def Gives (P : Program) (f : FuncId) (args : Array Value) (w : World) (v : Value) : Prop :=
  Calls P f args w fun e w' => e = .returned v ∧ Below w.heap.size w w'

/-- A call that gives a new list of numbers. -/
def GivesInts (P : Program) (f : FuncId) (args : Array Value) (w : World) (xs : List Int) : Prop :=
  Calls P f args w fun e w' => (∃ A n c, e = .returned (.slice A n c) ∧ n ≤ c ∧ Ints w' A n xs) ∧ Below w.heap.size w w'

theorem ne_of_at {xs ys : List Int} {k : Nat} {x y : Int} (h : xs[k]? = some x) (g : ys[k]? = some y) (hne : x ≠ y) : (xs == ys) = false := by
  rw [beq_eq_false_iff_ne]
  rintro rfl
  rw [h] at g
  exact hne (by injection g)
theorem eq_of_take {xs ys : List Int} {k n : Nat} (h : xs.length = n) (g : ys.length = n) (hk : n ≤ k) (he : xs.take k = ys.take k) : (xs == ys) = true := by
  rw [List.take_of_length_le (by omega), List.take_of_length_le (by omega)] at he
  simp [he]
theorem take_same {xs ys : List Int} {k : Nat} {x : Int} (h : xs[k]? = some x) (g : ys[k]? = some x) (he : xs.take k = ys.take k) : xs.take (k + 1) = ys.take (k + 1) := by
  rw [List.take_add_one, List.take_add_one, h, g, he]
/-- What a list-making call leaves: a new list that reads as xs; nothing that was there has changed. -/
def Makes (w : World) (xs : List Int) (e : Ending) (w' : World) : Prop :=
  (∃ A n c, e = .returned (.slice A n c) ∧ n ≤ c ∧ Ints w' A n xs) ∧ Below w.heap.size w w'
theorem Makes.none_ (w : World) : Makes w [] (.returned (.slice none 0 0)) w := ⟨⟨_, _, _, rfl, by omega, Ints.nil_ _ _⟩, Below.refl _ _⟩
theorem Makes.own {w w' : World} {b g n c : Nat} {e : TypeId} {xs : List Int} (h : Own w' b e g n c xs) (hb : Below w.heap.size w w') :
    Makes w xs (.returned (.slice (some ⟨g, 0, none⟩) n c)) w' := ⟨⟨_, _, _, rfl, h.cap, h.ints⟩, hb⟩
/-- From place k on the list ys is the list zs. -/
def From (k : Nat) (ys zs : List Int) : Prop := ys.length = zs.length ∧ ∀ j, k ≤ j → ys[j]? = zs[j]?
theorem From.zero {ys zs : List Int} (h : From 0 ys zs) : ys = zs := List.ext_getElem? fun j => h.2 j (by omega)
theorem From.set_ {k : Nat} {ys zs : List Int} {u : Int} (h : From (k + 1) ys zs) (hu : zs[k]? = some u) : From k (ys.set k u) zs := by
  refine ⟨by simpa using h.1, fun j hj => ?_⟩
  have hk : k < ys.length := by rw [h.1]; exact (List.getElem?_eq_some_iff.1 hu).1
  rw [List.getElem?_set]
  by_cases e : k = j
  · subst e; simp [hk, hu]
  · rw [if_neg e]; exact h.2 j (by omega)

/-- Up to place k the list ys is the list zs. -/
def Upto (k : Nat) (ys zs : List Int) : Prop := ys.length = zs.length ∧ ∀ j, j < k → ys[j]? = zs[j]?
theorem Upto.start {ys zs : List Int} (h : ys.length = zs.length) : Upto 0 ys zs := ⟨h, fun _ h => absurd h (by omega)⟩
theorem Upto.all {k : Nat} {ys zs : List Int} (h : Upto k ys zs) (hk : zs.length ≤ k) : ys = zs := List.ext_getElem? fun j => by
  by_cases hj : j < k
  · exact h.2 j hj
  · rw [List.getElem?_eq_none (by rw [h.1]; omega), List.getElem?_eq_none (by omega)]
theorem Upto.set_ {k : Nat} {ys zs : List Int} {u : Int} (h : Upto k ys zs) (hu : zs[k]? = some u) : Upto (k + 1) (ys.set k u) zs := by
  refine ⟨by simpa using h.1, fun j hj => ?_⟩
  have hk : k < ys.length := by rw [h.1]; exact (List.getElem?_eq_some_iff.1 hu).1
  rw [List.getElem?_set]
  by_cases e : k = j
  · subst e; simp [hk, hu]
  · rw [if_neg e]; exact h.2 j (by omega)

theorem ret_int {k : IntKind} {a b : Int} (h : a = b) : Ending.returned (.int k a) = .returned (.int k b) := by rw [h]
theorem ret_bool {a b : Bool} (h : a = b) : Ending.returned (.bool a) = .returned (.bool b) := by rw [h]
theorem ret_ib {k : IntKind} {a b : Int} {p q : Bool} (h : a = b) (g : p = q) : Ending.returned (.tuple #[.int k a, .bool p]) = .returned (.tuple #[.int k b, .bool q]) := by rw [h, g]
end Go.Proofs.Ythhfjbhopenchaa
