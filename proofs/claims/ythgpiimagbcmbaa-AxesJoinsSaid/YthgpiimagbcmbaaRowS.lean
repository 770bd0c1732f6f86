/- A list of tensors of one's own, that grows; a pool of things that are kept. No Go function is named. -/
import Derived.Test.YthgpiimagbcmbaaAxJ
import Derived.Maps.AppendAt
namespace Go.Proofs.Ythgpiimagbcmbaa
open Go.RowKit

theorem Sep.pair {w0 w : World} {l : List Chunk} : Sep w0 w l ↔ Below w0.heap.size w0 w ∧ (∀ c ∈ l, Chunk.holds w w0.heap.size c) ∧ l.Pairwise Apart := by
  constructor
  · rintro ⟨h1, h2, h3⟩
    refine ⟨h1, fun c hc => ?_, ?_⟩
    · obtain ⟨i, hi⟩ := List.getElem?_of_mem hc
      exact h2 i c hi
    · rw [List.pairwise_iff_getElem]
      intro i j hi hj hij
      exact h3 i j _ _ (by omega) (List.getElem?_eq_getElem hi) (List.getElem?_eq_getElem hj)
  · rintro ⟨h1, h2, h3⟩
    refine ⟨h1, fun i c hi => h2 c (List.mem_of_getElem? hi), fun i j a b hij hi hj => ?_⟩
    rw [List.pairwise_iff_getElem] at h3
    obtain ⟨hil, rfl⟩ := List.getElem?_eq_some_iff.1 hi
    obtain ⟨hjl, rfl⟩ := List.getElem?_eq_some_iff.1 hj
    rcases Nat.lt_or_ge i j with h | h
    · exact h3 i j hil hjl h
    · exact (h3 j i hjl hil (by omega)).symm
theorem Sep.perm {w0 w : World} {l l' : List Chunk} (h : Sep w0 w l) (hp : l.Perm l') : Sep w0 w l' := by
  obtain ⟨h1, h2, h3⟩ := Sep.pair.1 h
  exact Sep.pair.2 ⟨h1, fun c hc => h2 c (hp.mem_iff.2 hc), hp.pairwise h3 fun hab => hab.symm⟩
/-- The first k of a list of one's own. -/
theorem OwnS.take {w : World} {base : Nat} {e : TypeId} {A : Option Addr} {n c k : Nat} {xs : List Int} (h : OwnS w base e (.slice A n c) n xs) (hk : k ≤ n) (h0 : 0 < k) : OwnS w base e (.slice A k c) k (xs.take k) := by
  obtain ⟨⟨hl, hh⟩, hf, hn⟩ := h
  refine ⟨⟨by rw [List.map_take, List.length_take, hl]; omega, ?_⟩, fun x hx => hf x (List.mem_of_mem_take hx), by omega⟩
  rcases hh with ⟨_, h'⟩ | ⟨g, cap, cur, hv, hb, hg, hnc, hcm, hcs, hct⟩
  · omega
  · right
    injection hv with h1 h2 h3
    refine ⟨g, cap, cur, by rw [h1, h3], hb, hg, by omega, hcm, hcs, ?_⟩
    rw [List.map_take, ← hct, List.take_take]
    congr 1; omega
theorem Sep.takeOwn {w0 w : World} {l : List Chunk} {e : TypeId} {A : Option Addr} {n c k : Nat} {xs : List Int} (h : Sep w0 w l) (i : Nat) (hi : l[i]? = some (.own e (.slice A n c) n xs)) (hk : k ≤ n) (h0 : 0 < k) :
    Sep w0 w (l.set i (.own e (.slice A k c) k (xs.take k))) :=
  h.change i hi (World.grownBy.refl _ _) (OwnS.take (h.ownS i hi) hk h0) fun b hb => .inl (by cases A <;> exact hb)

theorem infoTen : (Try.prog.info? 25).map (fun i => (i.zero, i.size, i.bytes)) = some (some (.agg #[.slice none 0 0, .slice none 0 0]), 2, 48) := by kernel_rfl
theorem infoTen_parts : ∃ i, Try.prog.info? 25 = some i ∧ i.zero = some (.agg #[.slice none 0 0, .slice none 0 0]) ∧ i.size = 2 ∧ i.bytes = 48 := by
  have h := infoTen
  cases e : Try.prog.info? 25 with
  | none => rw [e] at h; cases h
  | some i =>
    rw [e] at h
    simp only [Option.map_some, Option.some.injEq, Prod.mk.injEq] at h
    exact ⟨i, rfl, h.1, h.2.1, h.2.2⟩
/-- 'l = append(l, t)': a tensor more. -/
theorem wpList_append_ten {w0 w : World} {ops : Array Oper} {rest : List Oper} {o : Oper} {a : Act} {Q : Exit → Act → World → Prop} (hgd : o.guard = none) (s y : Operand) (t : TypeId)
    (ho : o.op = .call { callee := .builtin .append, args := #[s, y], argTypes := #[t, t] }) (ht : Try.prog.underlying t = some (.slice 25))
    {l : List Chunk} (H : Sep w0 w l) (i : Nat) {v : Value} {n : Nat} {us : List Value} (hi : l[i]? = some (.row 25 2 v n us)) (hs : a.eval s = v) {S D : Option Addr} {sn sc dn dc : Nat} (c : Nat) (hy : a.eval y = .slice (some ⟨w.heap.size, 0, none⟩) 1 c)
    (hn : n ≤ 1000)
    (h : ∀ v' w', Sep w0 w' (l.set i (.row 25 2 v' (n + 1) (us ++ [.slice S sn sc, .slice D dn dc]))) → wpList Try.prog ops Q rest (a.put o.dst v') w') :
    wpList Try.prog ops Q (o :: rest) a (w.alloc (.cells #[.slice S sn sc, .slice D dn dc] 25)) := by
  obtain ⟨ti, h1, h2, h3, h4⟩ := infoTen_parts
  have H' := H.below ((Below.refl w.heap.size w).alloc (Nat.le_refl _) (.cells #[.slice S sn sc, .slice D dn dc] 25))
  have hsz := H'.size
  refine wpList_append_own_at _ hgd s y t ho w0.heap.size 25 ti _ 2 48 ht h1 h2 h3 h4 (by rfl) (by omega) v n us hs (H'.at_ i hi) ⟨w.heap.size, 0, none⟩ 1 c [.slice S sn sc, .slice D dn dc] hy rfl ?_ (by simp [Value.oneCell']) (by unfold maxLen; omega) (by omega) hsz ?_
  · intro j u hj
    have hb := heap_alloc_new w (.cells #[.slice S sn sc, .slice D dn dc] 25)
    match j, hj with
    | 0, hj => simp at hj; subst hj; exact cell_of_row _ _ 0 _ _ _ hb
    | 1, hj => simp at hj; subst hj; exact cell_of_row _ _ 1 _ _ _ hb
    | j + 2, hj => simp at hj
  · intro v' w' h5 h6 _ h8
    exact h v' w' (H'.change i hi h6 h5 fun b hb => by
      have hb : v'.ownBlock = some b := hb
      rcases h8 with e | e
      · exact .inl (e.symm.trans hb)
      · rw [e] at hb; injection hb with hb; subst hb; exact .inr (Nat.le_refl _))

/-- The tensors that a list holds lie in the pool. -/
def Pool (us : List Value) (L : TL) (pool : List Chunk) : Prop := us.length = L.length * 2 ∧ ∀ (j : Nat) (t : List Int × List Int), L[j]? = some t → ∃ (S : Option Addr) (sn sc : Nat) (D : Option Addr) (dn dc p q : Nat), us[j * 2]? = some (.slice S sn sc) ∧ us[j * 2 + 1]? = some (.slice D dn dc) ∧ pool[p]? = some (Chunk.own 3 (.slice S sn sc) sn t.1) ∧ pool[q]? = some (Chunk.own 2 (.slice D dn dc) dn t.2)
theorem addr0 (g j : Nat) : (⟨g, 0, none⟩ : Addr).add j = ⟨g, j, none⟩ := by
  by_cases h : j = 0
  · subst h; rfl
  · simp [Addr.add, h]
theorem pool_nil : Pool [] [] [] := ⟨rfl, fun j t h => by simp at h⟩
theorem Pool.more {us : List Value} {L : TL} {pool : List Chunk} {S D : Option Addr} {sn sc dn dc : Nat} {t : List Int × List Int} (h : Pool us L pool) :
    Pool (us ++ [.slice S sn sc, .slice D dn dc]) (L ++ [t]) (Chunk.own 3 (.slice S sn sc) sn t.1 :: Chunk.own 2 (.slice D dn dc) dn t.2 :: pool) := by
  obtain ⟨hl, h⟩ := h
  refine ⟨by simp [hl]; omega, fun j u hu => ?_⟩
  rcases Nat.lt_or_ge j L.length with hj | hj
  · rw [List.getElem?_append_left hj] at hu
    obtain ⟨S', sn', sc', D', dn', dc', p, q, h1, h2, h3, h4⟩ := h j u hu
    exact ⟨S', sn', sc', D', dn', dc', p + 2, q + 2, by rw [List.getElem?_append_left (by omega)]; exact h1, by rw [List.getElem?_append_left (by omega)]; exact h2, h3, h4⟩
  · rw [List.getElem?_append_right hj] at hu
    have hj' : j = L.length := by
      rcases Nat.eq_or_lt_of_le hj with e | e
      · exact e.symm
      · obtain ⟨m, hm⟩ : ∃ m, j - L.length = m + 1 := ⟨j - L.length - 1, by omega⟩
        rw [hm] at hu; simp at hu
    subst hj'
    simp at hu; subst hu
    exact ⟨S, sn, sc, D, dn, dc, 0, 1, by rw [List.getElem?_append_right (by omega), hl]; simp, by rw [List.getElem?_append_right (by omega), hl]; simp, rfl, rfl⟩
theorem pool_tens {w0 w : World} {l : List Chunk} {g n c : Nat} {us : List Value} {L : TL} {pool : List Chunk} (h : Sep w0 w (.row 25 2 (.slice (some ⟨g, 0, none⟩) n c) n us :: l)) (hP : Pool us L pool) (hn : L.length = n) (hn2 : n ≤ 1000) (f : Nat) (hf : ∀ i, l[i + f]? = pool[i]?) :
    Tens w (some ⟨g, 0, none⟩) n L := by
  have hrow : w.ownsRow w0.heap.size 25 2 (.slice (some ⟨g, 0, none⟩) n c) n us := h.at_ 0 rfl
  obtain ⟨hl, hP⟩ := hP
  refine ⟨hn, by omega, fun j t ht => ?_⟩
  have hj : j < L.length := (List.getElem?_eq_some_iff.1 ht).1
  obtain ⟨S, sn, sc, D, dn, dc, p, q, h1, h2, h3, h4⟩ := hP j t ht
  have hlt := (World.ownsRow.lt hrow g rfl).2
  have hp := h.ownInts (p + f + 1) ((hf p).trans h3)
  have hq := h.ownInts (q + f + 1) ((hf q).trans h4)
  refine ⟨⟨g, 0, none⟩, S, sn, sc, D, dn, dc, rfl, hlt, ?_, ?_, ten_mk hp.2.2 hp.2.1 hq.2.2 hq.2.1⟩
  · rw [addr0]
    rw [hrow.cellAt (j * 2) (by omega), h1]
  · rw [addr0]
    rw [hrow.cellAt (j * 2 + 1) (by omega), h2]
/-- A row of one's own that holds something. -/
theorem Sep.rowForm {w0 w : World} {l : List Chunk} {e : TypeId} {k n : Nat} {v : Value} {us : List Value} (h : Sep w0 w l) (i : Nat) (hi : l[i]? = some (.row e k v n us)) (hn : 0 < n) : ∃ g c, v = .slice (some ⟨g, 0, none⟩) n c ∧ n ≤ c := by
  have hr : w.ownsRow w0.heap.size e k v n us := h.at_ i hi
  rcases hr.2 with ⟨_, h'⟩ | ⟨g, cap, cur, hv, _, _, hnc, _⟩
  · omega
  · exact ⟨g, cap, hv, hnc⟩
theorem Sep.addRowNil {w0 w : World} {l : List Chunk} (h : Sep w0 w l) (e : TypeId) (k : Nat) : Sep w0 w (.row e k (.slice none 0 0) 0 [] :: l) :=
  Sep.cons_ h.1 (World.ownsRow_nil w w0.heap.size e k) h.2.1 (fun _ _ _ b hb => by cases hb) h.2.2
end Go.Proofs.Ythgpiimagbcmbaa
