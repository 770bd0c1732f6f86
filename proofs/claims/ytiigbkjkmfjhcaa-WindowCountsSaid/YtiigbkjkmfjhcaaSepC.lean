/- More words on Sep: parts, orders, what was there before. -/
import Derived.Test.YtiigbkjkmfjhcaaSepB
import Derived.Test.YtiigbkjkmfjhcaaTenB
namespace Go.Proofs.Ytiigbkjkmfjhcaa
open Go.RowKit

theorem Sep.tail_ {w0 w : World} {c : Chunk} {l : List Chunk} (h : Sep w0 w (c :: l)) : Sep w0 w l :=
  ⟨h.1, fun i d hi => h.2.1 (i + 1) d hi, fun i j a b hij hi hj => h.2.2 (i + 1) (j + 1) a b (by omega) hi hj⟩
theorem Sep.less1 {w0 w : World} {c d : Chunk} {l : List Chunk} (h : Sep w0 w (c :: d :: l)) : Sep w0 w (c :: l) :=
  Sep.cons_ h.1 (h.2.1 0 c rfl) h.tail_.tail_.2.1 (fun i e hi => h.2.2 0 (i + 2) c e (by omega) rfl hi) h.tail_.tail_.2.2

theorem Sep.swap {w0 w : World} {c d : Chunk} {l : List Chunk} (h : Sep w0 w (c :: d :: l)) : Sep w0 w (d :: c :: l) :=
  Sep.cons_ h.1 (h.2.1 1 d rfl) h.less1.2.1 (fun i e hi => by
    cases i with
    | zero => simp at hi; subst hi; exact (h.2.2 0 1 _ d (by omega) rfl rfl).symm
    | succ i => exact h.2.2 1 (i + 2) d e (by omega) rfl (by simpa using hi)) h.less1.2.2
theorem Sep.noughts2 {w0 w : World} {l : List Chunk} (h : Sep w0 w l) (e : TypeId) (n : Nat) (hn : n ≤ 17592186044000) :
    Sep w0 ((w.alloc (.cells (Go.Proofs.Ytiigbkjkmfjhcaa.noughts n) e)).alloc (.cells (Go.Proofs.Ytiigbkjkmfjhcaa.noughts n) e)) (.own e (.slice (some ⟨w.heap.size + 1, 0, none⟩) n n) n (List.replicate n 0) :: .own e (.slice (some ⟨w.heap.size, 0, none⟩) n n) n (List.replicate n 0) :: l) := by
  have := (h.noughts e n hn).noughts e n hn
  rwa [show (w.alloc (.cells (Go.Proofs.Ytiigbkjkmfjhcaa.noughts n) e)).heap.size = w.heap.size + 1 by simp] at this

theorem Sep.addOld {w0 w : World} {l : List Chunk} (h : Sep w0 w l) {A : Option Addr} {n : Nat} {xs : List Int} (hI : Ints w0 A n xs) : Sep w0 w (.ints A n xs :: l) :=
  Sep.cons_ h.1 ⟨h.oldI hI, hI.lt⟩ h.2.1 (fun i d hi k hk => by cases hk) h.2.2

theorem Sep.pair {w0 w : World} {l : List Chunk} : Sep w0 w l ↔ Below w0.heap.size w0 w ∧ (∀ c ∈ l, Chunk.holds w w0.heap.size c) ∧ l.Pairwise Apart := by
  constructor
  · rintro ⟨h1, h2, h3⟩
    refine ⟨h1, fun c hc => ?_, ?_⟩
    · obtain ⟨i, hi⟩ := List.getElem?_of_mem hc
      exact h2 i c hi
    · rw [List.pairwise_iff_getElem]
      intro i j hi hj hij
      exact h3 i j _ _ (by omega) (List.getElem?_eq_getElem hi) (List.getElem?_eq_getElem hj)
  · rintro ⟨h1, h2, h3⟩
    refine ⟨h1, fun i c hi => h2 c (List.mem_of_getElem? hi), fun i j a b hij hi hj => ?_⟩
    rw [List.pairwise_iff_getElem] at h3
    obtain ⟨hil, rfl⟩ := List.getElem?_eq_some_iff.1 hi
    obtain ⟨hjl, rfl⟩ := List.getElem?_eq_some_iff.1 hj
    rcases Nat.lt_or_ge i j with h | h
    · exact h3 i j hil hjl h
    · exact (h3 j i hjl hil (by omega)).symm
theorem Sep.perm {w0 w : World} {l l' : List Chunk} (h : Sep w0 w l) (hp : l.Perm l') : Sep w0 w l' := by
  obtain ⟨h1, h2, h3⟩ := Sep.pair.1 h
  exact Sep.pair.2 ⟨h1, fun c hc => h2 c (hp.mem_iff.2 hc), hp.pairwise h3 fun hab => hab.symm⟩
/-- The first k of a list of one's own. -/
theorem OwnS.take {w : World} {base : Nat} {e : TypeId} {A : Option Addr} {n c k : Nat} {xs : List Int} (h : OwnS w base e (.slice A n c) n xs) (hk : k ≤ n) (h0 : 0 < k) : OwnS w base e (.slice A k c) k (xs.take k) := by
  obtain ⟨⟨hl, hh⟩, hf, hn⟩ := h
  refine ⟨⟨by rw [List.map_take, List.length_take, hl]; omega, ?_⟩, fun x hx => hf x (List.mem_of_mem_take hx), by omega⟩
  rcases hh with ⟨_, h'⟩ | ⟨g, cap, cur, hv, hb, hg, hnc, hcm, hcs, hct⟩
  · omega
  · right
    injection hv with h1 h2 h3
    refine ⟨g, cap, cur, by rw [h1, h3], hb, hg, by omega, hcm, hcs, ?_⟩
    rw [List.map_take, ← hct, List.take_take]
    congr 1; omega
theorem Sep.takeOwn {w0 w : World} {l : List Chunk} {e : TypeId} {A : Option Addr} {n c k : Nat} {xs : List Int} (h : Sep w0 w l) (i : Nat) (hi : l[i]? = some (.own e (.slice A n c) n xs)) (hk : k ≤ n) (h0 : 0 < k) :
    Sep w0 w (l.set i (.own e (.slice A k c) k (xs.take k))) :=
  h.change i hi (World.grownBy.refl _ _) (OwnS.take (h.ownS i hi) hk h0) fun b hb => .inl (by cases A <;> exact hb)

/-- A row of one's own that holds something. -/
theorem Sep.rowForm {w0 w : World} {l : List Chunk} {e : TypeId} {k n : Nat} {v : Value} {us : List Value} (h : Sep w0 w l) (i : Nat) (hi : l[i]? = some (.row e k v n us)) (hn : 0 < n) : ∃ g c, v = .slice (some ⟨g, 0, none⟩) n c ∧ n ≤ c := by
  have hr : w.ownsRow w0.heap.size e k v n us := h.at_ i hi
  rcases hr.2 with ⟨_, h'⟩ | ⟨g, cap, cur, hv, _, _, hnc, _⟩
  · omega
  · exact ⟨g, cap, hv, hnc⟩
theorem Sep.addRowNil {w0 w : World} {l : List Chunk} (h : Sep w0 w l) (e : TypeId) (k : Nat) : Sep w0 w (.row e k (.slice none 0 0) 0 [] :: l) :=
  Sep.cons_ h.1 (World.ownsRow_nil w w0.heap.size e k) h.2.1 (fun _ _ _ b hb => by cases hb) h.2.2

theorem Sep.ofBelow {w0 w : World} (h : Below w0.heap.size w0 w) : Sep w0 w [] := ⟨h, fun i c hi => by simp at hi, fun i j a b _ hi => by simp at hi⟩
theorem Sep.noughtsAt {w0 w : World} {l : List Chunk} (h : Sep w0 w l) (e : TypeId) (n g : Nat) (hg : w.heap.size = g) (hn : n ≤ 17592186044000) : Sep w0 (w.alloc (.cells (Go.Proofs.Ytiigbkjkmfjhcaa.noughts n) e)) (.own e (.slice (some ⟨g, 0, none⟩) n n) n (List.replicate n 0) :: l) := by
  subst hg; exact h.noughts e n hn
end Go.Proofs.Ytiigbkjkmfjhcaa
