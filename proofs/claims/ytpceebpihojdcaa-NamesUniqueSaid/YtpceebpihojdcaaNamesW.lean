/- Words for package names: a string that is ranged over, make([]rune, 0, n), what a builder holds. -/
import Derived.Test.YtpceebpihojdcaaRef9N
import Derived.Test.YtpceebpihojdcaaLays9
namespace Go.Proofs.Ytpceebpihojdcaa
open Go.RowKit

/-- Block K goes over s: it stands at pos, behind k runes. -/
def RIt (w : World) (K : Nat) (s : ByteArray) (pos k : Nat) : Prop :=
  w.heap[K]? = some (.stringIter s pos) ∧ runesAt s s.size pos = (runesOf s).drop k ∧ k ≤ pos
theorem rit_start (w : World) (s : ByteArray) : RIt (w.iter s 0) w.heap.size s 0 0 := ⟨World.iter_heap w s 0, rfl, Nat.le_refl _⟩
theorem rit_lt {w : World} {K pos k : Nat} {s : ByteArray} (h : RIt w K s pos k) : K < w.heap.size := by
  rcases Nat.lt_or_ge K w.heap.size with hl | hl
  · exact hl
  · have := h.1; rw [Array.getElem?_eq_none hl] at this; cases this
theorem rit_pos {w : World} {K pos k : Nat} {s : ByteArray} (h : RIt w K s pos k) : w.iterPos K = pos := iterPos_at h.1
theorem rit_below {B : Nat} {w w' : World} {K pos k : Nat} {s : ByteArray} (h : RIt w K s pos k) (hb : Below B w w') (hK : K < B) : RIt w' K s pos k :=
  ⟨(hb.block K hK).trans h.1, h.2.1, h.2.2⟩
theorem rit_kept {e : TypeId} {b : Nat} {w w' : World} {K pos k : Nat} {s : ByteArray} (h : RIt w K s pos k) (hk : Lib.OthersKept e (some b) w w') (hKb : K ≠ b) : RIt w' K s pos k :=
  ⟨hk.iter h.1 hKb, h.2.1, h.2.2⟩
theorem rit_grown {w w' : World} {K pos k : Nat} {s : ByteArray} {row : Option Nat} (h : RIt w K s pos k) (hg : w.grownBy w' row) (hr : row ≠ some K) : RIt w' K s pos k :=
  ⟨(hg.block K (rit_lt h) (fun e => hr e.symm)).trans h.1, h.2.1, h.2.2⟩
/-- One rune further. -/
theorem rit_next {B : Nat} {w0 w : World} {K pos k : Nat} {s : ByteArray} (h : RIt w K s pos k) (hlt : pos < s.size) (hB : Below B w0 w) (hK : B ≤ K) :
    ∃ (w2 : World) (r : Int) (d : Nat), (∀ ty, (Instr.next (.pointer (some ⟨K, 0, none⟩)) true ty).run Try.prog w = .ok (.tuple #[.bool true, .int .i64 pos, .int .i32 r]) w2) ∧
      RIt w2 K s (pos + d) (k + 1) ∧ 1 ≤ d ∧ (runesOf s)[k]? = some r ∧ FitsR r ∧ Below B w0 w2 ∧ w.grownBy w2 (some K) := by
  have hg := iterAt_grown (w := w) (s := s) (k := K) (pos := pos + (Utf8.decode s pos).2)
  have hst := runesAt_step s hlt
  rw [h.2.1] at hst
  have hk : (runesOf s)[k]? = some ((Utf8.decode s pos).1 : Int) := by
    have := congrArg (fun l : List Int => l[0]?) hst
    simpa using this
  have hd : (runesOf s).drop (k + 1) = runesAt s s.size (pos + (Utf8.decode s pos).2) := by
    have := congrArg List.tail hst
    simpa using this
  have hw := decode_width s pos hlt
  have := h.2.2
  exact ⟨_, _, (Utf8.decode s pos).2, fun ty => run_next_at (P := Try.prog) h.1 hlt ty, ⟨iterAt_heap (rit_lt h), hd.symm, by omega⟩, hw, hk, rune_fits s pos, below_of_grown hB (by have := rit_lt h; omega) hg hK, hg⟩
theorem rit_end {w : World} {K pos k : Nat} {s : ByteArray} (h : RIt w K s pos k) (hlt : ¬ pos < s.size) : (runesOf s).length ≤ k := by
  have := h.2.1
  rw [runesAt_end s hlt] at this
  have := congrArg List.length this
  rw [List.length_drop, List.length_nil] at this
  omega
theorem rit_over {w : World} {K pos k : Nat} {s : ByteArray} (h : RIt w K s pos k) (hlt : ¬ pos < s.size) (ty : TypeId) :
    (Instr.next (.pointer (some ⟨K, 0, none⟩)) true ty).run Try.prog w = .ok (.tuple #[.bool false]) w := run_next_over h.1 hlt ty
theorem rit_bd {w : World} {K pos k : Nat} {s : ByteArray} (h : RIt w K s pos k) (hlt : pos < s.size) : k < s.size := by have := h.2.2; omega

theorem findI_in {r : Int} : ∀ {l : List Int} {k j : Nat}, r ∈ l.take j → findI l r k < ((k + j : Nat) : Int)
  | [], _, j, h => by simp at h
  | x :: l, k, 0, h => by simp at h
  | x :: l, k, j + 1, h => by
    rw [findI]
    split
    · omega
    · rename_i hx
      rw [List.take_succ_cons] at h
      rcases List.mem_cons.1 h with h | h
      · exact absurd h.symm hx
      · have := findI_in (k := k + 1) h
        omega
theorem findF_in {l : List Int} {r : Int} {j : Nat} (h : r ∈ l.take j) : findF l r < (j : Int) := by
  have := findI_in (k := 0) h
  rwa [Nat.zero_add] at this

theorem OwnRS.apartIter {w : World} {base n : Nat} {e : TypeId} {v : Value} {xs : List Int} (h : OwnRS w base e v n xs) {k pos : Nat} {s : ByteArray} (hk : w.heap[k]? = some (.stringIter s pos)) : v.ownBlock ≠ some k := by
  intro hj
  obtain ⟨cs, hb⟩ := h.blk hj
  rw [hk] at hb
  cases hb

/-- 'make([]rune, 0, n)' -/
def noughtsR (n : Nat) : Array Value := (List.replicate n (Value.int .i32 0)).toArray
theorem run_make_roomR {t e : TypeId} (ht : Try.prog.underlying t = some (.slice e)) (hinfo : (Try.prog.info? e).map (fun i => (i.zero, i.size, i.bytes)) = some (some (.int .i32 0), 1, 4))
    {n : Nat} (hn : n ≤ 17592186044000) (w : World) :
    (Instr.makeSlice t (.int .i64 0) (.int .i64 n)).run Try.prog w = .ok (.slice (some ⟨w.heap.size, 0, none⟩) 0 n) (w.alloc (.cells (noughtsR n) e)) := by
  obtain ⟨i, hi, hz0, hz1, hz2⟩ := info_parts hinfo
  have := run_make (P := Try.prog) w t e i (.int .i32 0) ht hi hz0 .i64 .i64 0 n (by omega) (by omega) (by rw [hz2]; omega) (by omega)
  rw [this, hz1]
  simp only [Int.toNat_natCast, Nat.mul_one]
  have hm : madeCells #[Value.int .i32 0] n = noughtsR n := by
    apply Array.toList_inj.1
    rw [toList_madeCells_one]; simp [noughtsR]
  rw [← hm]; rfl
theorem ownRS_room {base : Nat} (w : World) (hb : base ≤ w.heap.size) (e : TypeId) (n : Nat) (hn : n ≤ 17592186044000) : OwnRS (w.alloc (.cells (noughtsR n) e)) base e (.slice (some ⟨w.heap.size, 0, none⟩) 0 n) 0 [] :=
  ⟨⟨rfl, .inr ⟨w.heap.size, n, noughtsR n, rfl, hb, heap_alloc_new _ _, Nat.zero_le _, by unfold maxLen; omega, by simp [noughtsR], by simp⟩⟩, by simp, by omega⟩

theorem u8_nat {x : Int} {m : Nat} (h : x = (m : Int)) : x.toNat.toUInt8 = UInt8.ofNat m := by subst h; rfl
/-- A rune's bytes. -/
theorem enc_same (r : Int) : (Utf8.encode r).data.toList = Lib.encodeRune r := by
  unfold Utf8.encode Lib.encodeRune
  by_cases hv : Utf8.valid r = true
  · rw [if_pos hv]
    have hv2 : (0 ≤ r ∧ r < 55296) ∨ (57344 ≤ r ∧ r ≤ 1114111) := by simpa [Utf8.valid] using hv
    obtain ⟨n, rfl⟩ := Int.eq_ofNat_of_zero_le (by omega : 0 ≤ r)
    rw [Int.toNat_natCast]
    by_cases c0 : n < 128
    · rw [if_pos c0, Lib.encodeRuneZ_one (by omega) (by omega)]; simp
    rw [if_neg c0]
    by_cases c1 : n < 2048
    · rw [if_pos c1, Lib.encodeRuneZ_two (by omega) (by omega)]
      simp only [List.map_cons, List.map_nil]
      rw [u8_nat (m := 192 + n / 64) (by omega), u8_nat (m := 128 + n % 64) (by omega)]
    rw [if_neg c1]
    by_cases c2 : n < 65536
    · rw [if_pos c2, Lib.encodeRuneZ_three (by omega)]
      simp only [List.map_cons, List.map_nil]
      rw [u8_nat (m := 224 + n / 4096) (by omega), u8_nat (m := 128 + n / 64 % 64) (by omega), u8_nat (m := 128 + n % 64) (by omega)]
    rw [if_neg c2, Lib.encodeRuneZ_four (by omega) (by omega)]
    simp only [List.map_cons, List.map_nil]
    rw [u8_nat (m := 240 + n / 262144) (by omega), u8_nat (m := 128 + n / 4096 % 64) (by omega), u8_nat (m := 128 + n / 64 % 64) (by omega), u8_nat (m := 128 + n % 64) (by omega)]
  · rw [if_neg hv]
    have hv2 : r < 0 ∨ (55296 ≤ r ∧ r ≤ 57343) ∨ 1114111 < r := by
      have : ¬ ((0 ≤ r ∧ r < 55296) ∨ (57344 ≤ r ∧ r ≤ 1114111)) := by simpa [Utf8.valid] using hv
      omega
    rw [Lib.encodeRuneZ_bad hv2]; rfl
theorem enc_add (t : ByteArray) (r : Int) : t.data.toList ++ Lib.encodeRune r = (t ++ Utf8.encode r).data.toList := by
  rw [← enc_same]; simp [ByteArray.data_append]
theorem ba_list (t : ByteArray) : (⟨t.data.toList.toArray⟩ : ByteArray) = t := by cases t; simp

theorem contains_any {w : World} {base n : Nat} {e : TypeId} {v : Value} {xs : List Int} (h : OwnS w base e v n xs) (x : Int) :
    Calls Try.prog 24 #[v, .int .i64 x] w fun e w' => e = .returned (.bool (xs.contains x)) ∧ w = w' := by
  by_cases hn : 0 < n
  · obtain ⟨g, c, rfl, hO⟩ := h.own hn
    have hl := hO.len
    refine (Any.slices_Contains_int nLays107 g 0 n c xs x w (by omega) hO.2.2 ?_).mono ?_
    · intro j hj
      rw [Nat.zero_add]
      refine hO.cell ?_
      rw [List.getD_eq_getElem?_getD, List.getElem?_eq_getElem hj]; rfl
    · rintro e w' ⟨rfl, rfl⟩
      rw [List.take_of_length_le (by omega)]
      exact ⟨rfl, rfl⟩
  · obtain rfl : n = 0 := by omega
    obtain ⟨A, c, rfl, _, hI, _⟩ := h.form
    have : xs = [] := List.eq_nil_of_length_eq_zero h.len
    subst this
    refine (Any.slices_Contains_int_empty nLays107 A c x w).mono ?_
    rintro e w' ⟨rfl, rfl⟩
    exact ⟨rfl, rfl⟩
end Go.Proofs.Ytpceebpihojdcaa
