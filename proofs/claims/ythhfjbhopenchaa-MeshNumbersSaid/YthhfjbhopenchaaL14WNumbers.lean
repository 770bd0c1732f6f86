/- The walk of MeshNumbers. -/
import Derived.Test.YthhfjbhopenchaaL14WTells
namespace Go.Proofs.Ythhfjbhopenchaa
open Go.RowKit

theorem infoLst14 : (Try.prog.info? 24).map (fun i => (i.zero, i.size, i.bytes)) = some (some (.slice none 0 0), 1, 24) := by kernel_rfl
theorem infoLst14_parts : ∃ i, Try.prog.info? 24 = some i ∧ i.zero = some (.slice none 0 0) ∧ i.size = 1 ∧ i.bytes = 24 := by
  have h := infoLst14
  cases e : Try.prog.info? 24 with
  | none => rw [e] at h; cases h
  | some i =>
    rw [e] at h
    simp only [Option.map_some, Option.some.injEq, Prod.mk.injEq] at h
    exact ⟨i, rfl, h.1, h.2.1, h.2.2⟩
/-- 'append(l, m...)': lists behind lists of one's own. -/
theorem wpList_appends_lst {w : World} {ops : Array Oper} {rest : List Oper} {o : Oper} {a : Act} {Q : Exit → Act → World → Prop} (hgd : o.guard = none) (s y : Operand) (t : TypeId)
    (ho : o.op = .call { callee := .builtin .append, args := #[s, y], argTypes := #[t, t] }) (ht : Try.prog.underlying t = some (.slice 24))
    {base : Nat} {v : Value} {n : Nat} {us : List Value} (hown : w.ownsRow base 24 1 v n us) (hs : a.eval s = v) {g m c : Nat} {news : List Value} (hy : a.eval y = .slice (some ⟨g, 0, none⟩) m c) (hg : w.heap[g]? = some (.cells news.toArray 24 (0, 0)))
    (hl : news.length = m) (h1 : ∀ u ∈ news, u.oneCell' = true) (hn : n + m ≤ 1000) (hb : base ≤ w.heap.size)
    (h : ∀ v' w', w'.ownsRow base 24 1 v' (n + m) (us ++ news) → w.grownBy w' v.ownBlock → wpList Try.prog ops Q rest (a.put o.dst v') w') :
    wpList Try.prog ops Q (o :: rest) a w := by
  obtain ⟨ti, g1, g2, g3, g4⟩ := infoLst14_parts
  refine wpList_append_own_at _ hgd s y t ho base 24 ti _ 1 24 ht g1 g2 g3 g4 (by rfl) (by omega) v n us hs hown ⟨g, 0, none⟩ m c news hy (by omega) ?_ h1 (by unfold maxLen; omega) (by omega) hb (fun v' w' h5 h6 _ _ => h v' w' h5 h6)
  intro j u hj
  have e : (⟨g, 0, none⟩ : Addr).add j = ⟨g, j, none⟩ := by cases j <;> simp [Addr.add]
  rw [e]
  rw [cell_of_row w g j _ _ _ hg]
  simpa using hj
theorem kC14 {w w' : World} {p : Addr} {v : Value} (hb : Below w.heap.size w w') (h : w.cell? p = some v) : w'.cell? p = some v := (hb.cell (block_lt_of_cell h)).trans h
/-- A list of lists of numbers. -/
def IsLists (w : World) (v : Value) (S : List (List Int)) : Prop :=
  ∃ g c, v = .slice (some ⟨g, 0, none⟩) S.length c ∧ ∀ (j : Nat) (s : List Int), S[j]? = some s → ∃ B d, w.cell? ⟨g, j, none⟩ = some (.slice B s.length d) ∧ s.length ≤ d ∧ Ints w B s.length s
def seventeen : List (List Int) := [[], [1], [2], [8], [2, 4], [4, 2], [2, 2, 2], [1, 3], [3, 2], [1, 1, 1], [2, 1, 3], [0], [9], [3, 3], [-1, -8], [1, 1, 1, 1], [2, 2, 3]]
set_option maxRecDepth 100000 in
set_option maxHeartbeats 6400000 in
theorem l14meshesR_any (w : World) : Calls Try.prog 7 #[] w fun e w' => (∃ g us, e = .returned (.slice (some ⟨g, 0, none⟩) 11 11) ∧ w'.ownsRow w.heap.size 24 1 (.slice (some ⟨g, 0, none⟩) 11 11) 11 us ∧ g < w'.heap.size ∧ ∀ (j : Nat) (s : List Int), meshes14[j]? = some s → ∃ B c, us[j]? = some (.slice B s.length c) ∧ s.length ≤ c ∧ Ints w' B s.length s ∧ ∀ ad, B = some ad → 0 < s.length → ad.block ≠ g) ∧ Below w.heap.size w w' := by
  have h1 := (Sep.nil w).litL 3 #[.int .i64 1] [1] 1 (w.heap.size) (by simp) rfl (by decide)
  have h2 := h1.litL 3 #[.int .i64 2] [2] 1 (w.heap.size + 1) (by simp) rfl (by decide)
  have h3 := h2.litL 3 #[.int .i64 8] [8] 1 (w.heap.size + 1 + 1) (by simp) rfl (by decide)
  have h4 := h3.litL 3 #[.int .i64 2, .int .i64 4] [2, 4] 2 (w.heap.size + 1 + 1 + 1) (by simp) rfl (by decide)
  have h5 := h4.litL 3 #[.int .i64 4, .int .i64 2] [4, 2] 2 (w.heap.size + 1 + 1 + 1 + 1) (by simp) rfl (by decide)
  have h6 := h5.litL 3 #[.int .i64 2, .int .i64 2, .int .i64 2] [2, 2, 2] 3 (w.heap.size + 1 + 1 + 1 + 1 + 1) (by simp) rfl (by decide)
  have h7 := h6.litL 3 #[.int .i64 1, .int .i64 3] [1, 3] 2 (w.heap.size + 1 + 1 + 1 + 1 + 1 + 1) (by simp) rfl (by decide)
  have h8 := h7.litL 3 #[.int .i64 3, .int .i64 2] [3, 2] 2 (w.heap.size + 1 + 1 + 1 + 1 + 1 + 1 + 1) (by simp) rfl (by decide)
  have h9 := h8.litL 3 #[.int .i64 1, .int .i64 1, .int .i64 1] [1, 1, 1] 3 (w.heap.size + 1 + 1 + 1 + 1 + 1 + 1 + 1 + 1) (by simp) rfl (by decide)
  have h10 := h9.litL 3 #[.int .i64 2, .int .i64 1, .int .i64 3] [2, 1, 3] 3 (w.heap.size + 1 + 1 + 1 + 1 + 1 + 1 + 1 + 1 + 1) (by simp) rfl (by decide)
  have hB := h10.allocBox (w.heap.size + 1 + 1 + 1 + 1 + 1 + 1 + 1 + 1 + 1 + 1) 24 [.slice none 0 0, .slice (some ⟨w.heap.size, 0, none⟩) 1 1, .slice (some ⟨w.heap.size + 1, 0, none⟩) 1 1, .slice (some ⟨w.heap.size + 1 + 1, 0, none⟩) 1 1, .slice (some ⟨w.heap.size + 1 + 1 + 1, 0, none⟩) 2 2, .slice (some ⟨w.heap.size + 1 + 1 + 1 + 1, 0, none⟩) 2 2, .slice (some ⟨w.heap.size + 1 + 1 + 1 + 1 + 1, 0, none⟩) 3 3, .slice (some ⟨w.heap.size + 1 + 1 + 1 + 1 + 1 + 1, 0, none⟩) 2 2, .slice (some ⟨w.heap.size + 1 + 1 + 1 + 1 + 1 + 1 + 1, 0, none⟩) 2 2, .slice (some ⟨w.heap.size + 1 + 1 + 1 + 1 + 1 + 1 + 1 + 1, 0, none⟩) 3 3, .slice (some ⟨w.heap.size + 1 + 1 + 1 + 1 + 1 + 1 + 1 + 1 + 1, 0, none⟩) 3 3] (by simp)
  have H := Lib.hid hB
  clear hB h1 h2 h3 h4 h5 h6 h7 h8 h9 h10
  go_enter Try.func7, Try.ntmps7
  go_wp2
  go_ret
  obtain ⟨hb1, hb2⟩ := H.out.at_ 0 rfl
  refine ⟨⟨_, _, rfl, ⟨rfl, .inr ⟨_, 11, _, rfl, hb1, hb2, Nat.le_refl _, by unfold maxLen; omega, rfl, rfl⟩⟩, (H.out.blockLt 0 rfl).2, fun j s hj => ?_⟩, H.out.base⟩
  match j, hj with
  | 0, hj => injection hj with hj; subst hj; exact ⟨_, _, rfl, Nat.le_refl _, Ints.nil_ _ none, fun ad h => by cases h⟩
  | 1, hj => injection hj with hj; subst hj; exact ⟨_, _, rfl, Nat.le_refl _, (H.out.ownInts 10 rfl).2.2, fun ad h _ e => by injection h with h; subst h; dsimp only at e; omega⟩
  | 2, hj => injection hj with hj; subst hj; exact ⟨_, _, rfl, Nat.le_refl _, (H.out.ownInts 9 rfl).2.2, fun ad h _ e => by injection h with h; subst h; dsimp only at e; omega⟩
  | 3, hj => injection hj with hj; subst hj; exact ⟨_, _, rfl, Nat.le_refl _, (H.out.ownInts 8 rfl).2.2, fun ad h _ e => by injection h with h; subst h; dsimp only at e; omega⟩
  | 4, hj => injection hj with hj; subst hj; exact ⟨_, _, rfl, Nat.le_refl _, (H.out.ownInts 7 rfl).2.2, fun ad h _ e => by injection h with h; subst h; dsimp only at e; omega⟩
  | 5, hj => injection hj with hj; subst hj; exact ⟨_, _, rfl, Nat.le_refl _, (H.out.ownInts 6 rfl).2.2, fun ad h _ e => by injection h with h; subst h; dsimp only at e; omega⟩
  | 6, hj => injection hj with hj; subst hj; exact ⟨_, _, rfl, Nat.le_refl _, (H.out.ownInts 5 rfl).2.2, fun ad h _ e => by injection h with h; subst h; dsimp only at e; omega⟩
  | 7, hj => injection hj with hj; subst hj; exact ⟨_, _, rfl, Nat.le_refl _, (H.out.ownInts 4 rfl).2.2, fun ad h _ e => by injection h with h; subst h; dsimp only at e; omega⟩
  | 8, hj => injection hj with hj; subst hj; exact ⟨_, _, rfl, Nat.le_refl _, (H.out.ownInts 3 rfl).2.2, fun ad h _ e => by injection h with h; subst h; dsimp only at e; omega⟩
  | 9, hj => injection hj with hj; subst hj; exact ⟨_, _, rfl, Nat.le_refl _, (H.out.ownInts 2 rfl).2.2, fun ad h _ e => by injection h with h; subst h; dsimp only at e; omega⟩
  | 10, hj => injection hj with hj; subst hj; exact ⟨_, _, rfl, Nat.le_refl _, (H.out.ownInts 1 rfl).2.2, fun ad h _ e => by injection h with h; subst h; dsimp only at e; omega⟩
  | j + 11, hj => simp [meshes14] at hj
set_option maxRecDepth 100000 in
set_option maxHeartbeats 12800000 in
theorem numbers14_walk (w : World) : Calls Try.prog 3 #[] w fun e w' => e = .returned (.bool true) ∧ Below w.heap.size w w' := by
  go_enter Try.func3, Try.ntmps3
  go_wp2_with fail
  refine (l14meshesR_any w).mono ?_; rintro e1 w1 ⟨⟨g, us, rfl, hrow, hg, hM⟩, hb1⟩
  have HB1 := Lib.hid hb1
  have HM := Lib.hid hM
  have HR := Lib.hid hrow
  have h1 := (Sep.nil w1).litL 3 #[.int .i64 0] [0] 1 (w1.heap.size) (by simp) rfl (by decide)
  have h2 := h1.litL 3 #[.int .i64 9] [9] 1 (w1.heap.size + 1) (by simp) rfl (by decide)
  have h3 := h2.litL 3 #[.int .i64 3, .int .i64 3] [3, 3] 2 (w1.heap.size + 1 + 1) (by simp) rfl (by decide)
  have h4 := h3.litL 3 #[.int .i64 (-1), .int .i64 (-8)] [-1, -8] 2 (w1.heap.size + 1 + 1 + 1) (by simp) rfl (by decide)
  have h5 := h4.litL 3 #[.int .i64 1, .int .i64 1, .int .i64 1, .int .i64 1] [1, 1, 1, 1] 4 (w1.heap.size + 1 + 1 + 1 + 1) (by simp) rfl (by decide)
  have h6 := h5.litL 3 #[.int .i64 2, .int .i64 2, .int .i64 3] [2, 2, 3] 3 (w1.heap.size + 1 + 1 + 1 + 1 + 1) (by simp) rfl (by decide)
  have hB := h6.allocBox (w1.heap.size + 1 + 1 + 1 + 1 + 1 + 1) 24 [.slice (some ⟨w1.heap.size, 0, none⟩) 1 1, .slice (some ⟨w1.heap.size + 1, 0, none⟩) 1 1, .slice (some ⟨w1.heap.size + 1 + 1, 0, none⟩) 2 2, .slice (some ⟨w1.heap.size + 1 + 1 + 1, 0, none⟩) 2 2, .slice (some ⟨w1.heap.size + 1 + 1 + 1 + 1, 0, none⟩) 4 4, .slice (some ⟨w1.heap.size + 1 + 1 + 1 + 1 + 1, 0, none⟩) 3 3] (by simp)
  have hh := (hB.at_ 0 rfl).2
  have hr2 : World.ownsRow _ w.heap.size 24 1 (.slice (some ⟨g, 0, none⟩) 11 11) 11 us := World.ownsRow.kept hrow (grown_of_below hB.base none) (.inr (by intro h; cases h))
  have hsz : w.heap.size ≤ _ := Nat.le_trans hb1.size hB.base.size
  have H := Lib.hid hB
  have HR2 := Lib.hid hr2
  have HH := Lib.hid hh
  have HSZ := Lib.hid hsz
  have HG := Lib.hid hg
  clear hB h1 h2 h3 h4 h5 h6 hrow hM hb1 hh hr2 hsz hg
  go_wp2_with (at_builtin; refine wpList_appends_lst rfl (.tmp 6) (.tmp 13) 22 rfl Try.underlying22 HR2.out rfl rfl HH.out rfl (by intro u hu; simp at hu; rcases hu with rfl | rfl | rfl | rfl | rfl | rfl <;> rfl) (by omega) HSZ.out ?_)
  intro v2 w2 h5 h6
  have hne : ∀ (k : Nat) (ad : Addr), ad.block = w1.heap.size + k → some ad.block ≠ some g := fun k ad h e => by injection e with e; have := HG.out; omega
  have hL : IsLists w2 v2 seventeen := by
    have hlen := h5.1
    rcases h5.2 with ⟨_, h0⟩ | ⟨g2, cap, cur, hv, _, hc, hle, _, _, htk⟩
    · omega
    · subst hv
      refine ⟨g2, cap, rfl, fun j s hj => ?_⟩
      have hcell : ∀ (j : Nat) (u : Value), (us ++ _)[j]? = some u → w2.cell? ⟨g2, j, none⟩ = some u := fun j u hu => by
        have hj9 := (List.getElem?_eq_some_iff.1 hu).1
        exact (World.ownsRow.cellAt h5 j (by rw [hlen] at hj9; exact hj9)).trans hu
      have hul : us.length = 11 := by have := HR.out.1; simpa using this
      by_cases hj11 : j < 11
      · obtain ⟨B, c, hu, hsc, hI, hbn⟩ := HM.out j s (by
          have : seventeen = meshes14 ++ [[0], [9], [3, 3], [-1, -8], [1, 1, 1, 1], [2, 2, 3]] := rfl
          rw [this, List.getElem?_append_left (by show j < 11; exact hj11)] at hj
          exact hj)
        exact ⟨B, c, hcell j _ (by rw [List.getElem?_append_left (by rw [hul]; exact hj11)]; exact hu), hsc, (hI.below H.out.base).grown h6 (fun ad e h0 e2 => hbn ad e h0 (by injection e2))⟩
      · obtain ⟨k, rfl⟩ : ∃ k, j = 11 + k := ⟨j - 11, by omega⟩
        have hgo : ∀ (u : Value), ([.slice (some ⟨w1.heap.size, 0, none⟩) 1 1, .slice (some ⟨w1.heap.size + 1, 0, none⟩) 1 1, .slice (some ⟨w1.heap.size + 1 + 1, 0, none⟩) 2 2, .slice (some ⟨w1.heap.size + 1 + 1 + 1, 0, none⟩) 2 2, .slice (some ⟨w1.heap.size + 1 + 1 + 1 + 1, 0, none⟩) 4 4, .slice (some ⟨w1.heap.size + 1 + 1 + 1 + 1 + 1, 0, none⟩) 3 3] : List Value)[k]? = some u → w2.cell? ⟨g2, 11 + k, none⟩ = some u := fun u hu => hcell (11 + k) u ((List.getElem?_append_right (by rw [hul]; omega)).trans (by rw [hul, show 11 + k - 11 = k by omega]; exact hu))
        match k, hj with
        | 0, hj => injection hj with hj; subst hj; exact ⟨_, _, hgo _ rfl, Nat.le_refl _, (H.out.ownInts 6 rfl).2.2.grown h6 (fun ad e _ => by injection e with e; subst e; exact hne 0 _ rfl)⟩
        | 1, hj => injection hj with hj; subst hj; exact ⟨_, _, hgo _ rfl, Nat.le_refl _, (H.out.ownInts 5 rfl).2.2.grown h6 (fun ad e _ => by injection e with e; subst e; exact hne 1 _ rfl)⟩
        | 2, hj => injection hj with hj; subst hj; exact ⟨_, _, hgo _ rfl, Nat.le_refl _, (H.out.ownInts 4 rfl).2.2.grown h6 (fun ad e _ => by injection e with e; subst e; exact hne 2 _ rfl)⟩
        | 3, hj => injection hj with hj; subst hj; exact ⟨_, _, hgo _ rfl, Nat.le_refl _, (H.out.ownInts 3 rfl).2.2.grown h6 (fun ad e _ => by injection e with e; subst e; exact hne 3 _ rfl)⟩
        | 4, hj => injection hj with hj; subst hj; exact ⟨_, _, hgo _ rfl, Nat.le_refl _, (H.out.ownInts 2 rfl).2.2.grown h6 (fun ad e _ => by injection e with e; subst e; exact hne 4 _ rfl)⟩
        | 5, hj => injection hj with hj; subst hj; exact ⟨_, _, hgo _ rfl, Nat.le_refl _, (H.out.ownInts 1 rfl).2.2.grown h6 (fun ad e _ => by injection e with e; subst e; exact hne 5 _ rfl)⟩
        | k + 6, hj => exact absurd (List.getElem?_eq_some_iff.1 hj).1 (by show ¬ 11 + (k + 6) < 17; omega)
  have hB2 : Below w.heap.size w w2 := (then_ HB1.out H.out.base).grown h6 HSZ.out (fun i hi => by
    injection hi with hi
    subst hi
    rcases HR.out.2 with ⟨e, _⟩ | ⟨g9, _, _, e, hge, _⟩
    · cases e
    · injection e with e _ _; injection e with e; injection e with e; subst e; exact hge)
  obtain ⟨g2, c2, hv2, hC⟩ := hL
  rw [show seventeen.length = 17 from rfl] at hv2
  subst hv2
  have HC := Lib.hid hC
  have HB2 := Lib.hid hB2
  clear h5 h6 hne hC hB2 H HR HR2 HH HSZ HG HM HB1
  go_wp2_with fail
  go_loopw [16] (fun iv wr => ∃ j : Nat, iv = .int .i64 j ∧ j ≤ 17 ∧ Below w2.heap.size w2 wr) (fun iv _ => 17 - (intOf iv).toNat)
  case atStart => exact ⟨0, rfl, by omega, Below.refl _ _⟩
  case round =>
    obtain ⟨j, rfl, hj, hB⟩ := hrel
    have HB := Lib.hid hB
    clear hB
    by_cases hlt : j < 17
    · have d0 : decide ((j : Int) < 17) = true := decide_eq_true (by omega)
      have d0n : decide (j < 17) = true := decide_eq_true hlt
      obtain ⟨s, hs⟩ : ∃ x, seventeen[j]? = some x := ⟨_, List.getElem?_eq_getElem (by show j < 17; exact hlt)⟩
      obtain ⟨A, c, hcl, hsc, hI⟩ := HC.out j s hs
      have hs4 : s.length ≤ 4 := by
        have : ∀ x ∈ seventeen, x.length ≤ 4 := by decide
        exact this s (List.mem_of_getElem? hs)
      obtain ⟨n, hn⟩ : ∃ n, s.length = n := ⟨_, rfl⟩
      rw [hn] at hcl hsc hI hs4
      have hcl2 := kC14 HB.out hcl
      obtain ⟨wb, rfl⟩ : ∃ wb : World, wb = wr := ⟨_, rfl⟩
      have HI := Lib.hid (fun (w' : World) (hb : Below w2.heap.size w2 w') => hI.below hb)
      clear hcl hI hs hn
      obtain ⟨r, hr, hr3⟩ : ∃ r : Nat, bits .and .i64 (n : Int) 3 = (r : Int) ∧ r ≤ 3 := ⟨n % 4, by rw [and14_3]; omega, by omega⟩
      go_wp2_with fail
      go_loopw [3] (fun dv wr => ∃ d : Int, dv = .int .i64 d ∧ -1 ≤ d ∧ d ≤ 9 ∧ Below w2.heap.size w2 wr) (fun dv _ => (9 - intOf dv).toNat)
      case atStart => exact ⟨-1, rfl, by omega, by omega, HB.out⟩
      case round =>
        clear HB
        obtain ⟨d, rfl, hd1, hd2, hB⟩ := hrel
        have HB := Lib.hid hB
        clear hB
        obtain ⟨wc, rfl⟩ : ∃ wc : World, wc = wr := ⟨_, rfl⟩
        by_cases hd9 : d < 9
        · have e0 : decide (d < 9) = true := decide_eq_true hd9
          go_wp2_with fail
          go_loopw [4] (fun av wr => ∃ x : Int, av = .int .i64 x ∧ -1 ≤ x ∧ x ≤ 4 ∧ Below w2.heap.size w2 wr) (fun av _ => (4 - intOf av).toNat)
          case atStart => exact ⟨-1, rfl, by omega, by omega, HB.out⟩
          case round =>
            clear HB
            obtain ⟨x, rfl, hx1, hx2, hB⟩ := hrel
            have HB := Lib.hid hB
            clear hB
            obtain ⟨wd, rfl⟩ : ∃ wd : World, wd = wr := ⟨_, rfl⟩
            by_cases hx4 : x < 4
            · have e1 : decide (x < 4) = true := decide_eq_true hx4
              go_wp2_with fail
              go_loopw [5] (fun bv wr => ∃ b : Int, bv = .int .i64 b ∧ -9 ≤ b ∧ b ≤ 10 ∧ Below w2.heap.size w2 wr) (fun bv _ => (10 - intOf bv).toNat)
              case atStart => exact ⟨-9, rfl, by omega, by omega, HB.out⟩
              case round =>
                clear HB
                obtain ⟨b, rfl, hb1, hb2, hB⟩ := hrel
                have HB := Lib.hid hB
                clear hB
                obtain ⟨we, rfl⟩ : ∃ we : World, we = wr := ⟨_, rfl⟩
                by_cases hb10 : b < 10
                · have e2 : decide (b < 10) = true := decide_eq_true hb10
                  go_wp2_with fail
                  refine (ref14At_any (c := c) d (HI.out we HB.out) ⟨by omega, by omega⟩).mono ?_; rintro e5 w5 ⟨⟨v5, n5, rfl, hO⟩, hb5⟩
                  obtain ⟨A5, c5, rfl, _, hI5, _⟩ := hO.form
                  have HB5 := Lib.hid (then_ HB.out hb5)
                  have CS := l14same_any (c := c) (q := c5) (d := d) (a := x) (b := b) (HI.out w5 HB5.out) hI5 ⟨by omega, by omega⟩ ⟨by omega, by omega⟩ ⟨by omega, by omega⟩
                  clear hO hI5 hb5
                  go_wp2_with fail
                  refine CS.mono ?_; rintro e6 w6 ⟨rfl, hb6⟩
                  have HB6 := Lib.hid (then_ HB5.out hb6)
                  have H := (Sep.nil w6).litL 3 #[.int .i64 d, .int .i64 x, .int .i64 b] [d, x, b] 3 w6.heap.size rfl rfl (by simp [litOk]; omega)
                  have hI6 := (H.ownInts 0 rfl).2.2.take hr3
                  have HB7 := Lib.hid (then_ HB6.out H.base)
                  have hcut : ∀ w, (Instr.slice 24 (.slice (some ⟨w6.heap.size, 0, none⟩) 3 3) none (some (.int .i64 (r : Int))) none).run Try.prog w = .ok (.slice (some ⟨w6.heap.size, 0, none⟩) r 3) w := fun w => by
                    have hu : Try.prog.underlying 24 = some (.slice 3) := by kernel_rfl
                    go_simp
                    try (intro h; omega)
                  have CS2 := l14same_any (c := c) (q := 3) (d := d) (a := x) (b := 4611686018427387904 + b) (HI.out _ HB7.out) hI6 ⟨by omega, by omega⟩ ⟨by omega, by omega⟩ ⟨by omega, by omega⟩
                  clear hb6 CS H hI6
                  go_wp2_with fail
                  refine CS2.mono ?_; rintro e8 w8 ⟨rfl, hb8⟩
                  have HB8 := Lib.hid (then_ HB7.out hb8)
                  clear hb8 CS2 hcut
                  go_wp2_with fail
                  go_roundw
                  case rel => exact ⟨b + 1, by go_num, by omega, by omega, HB8.out⟩
                  case measure => simp [intOf]; omega
                · have e2 : decide (b < 10) = false := decide_eq_false hb10
                  go_wp2_with fail
                  go_roundw
                  case rel => exact ⟨x + 1, by go_num, by omega, by omega, HB.out⟩
                  case measure => simp [intOf]; omega
            · have e1 : decide (x < 4) = false := decide_eq_false hx4
              go_wp2_with fail
              go_roundw
              case rel => exact ⟨d + 1, by go_num, by omega, by omega, HB.out⟩
              case measure => simp [intOf]; omega
        · have e0 : decide (d < 9) = false := decide_eq_false hd9
          go_wp2_with fail
          go_roundw
          case rel => exact ⟨j + 1, by go_num, by omega, HB.out⟩
          case measure => simp [intOf]; omega
    · have d0 : decide ((j : Int) < 17) = false := decide_eq_false (by omega)
      have d0n : decide (j < 17) = false := decide_eq_false hlt
      have H := (Sep.nil wr).litL 3 #[.int .i64 5] [5] 1 wr.heap.size rfl rfl (by decide)
      have hI5 := (H.ownInts 0 rfl).2.2
      have HBL := Lib.hid H.base
      have CS := l14same_any (c := 1) (q := 0) (d := 2) (a := 0) (b := -9223372036854775808) hI5 (Ints.nil_ _ none) ⟨by omega, by omega⟩ ⟨by omega, by omega⟩ ⟨by omega, by omega⟩
      have HCS := Lib.hid CS
      clear H hI5 CS
      go_wp2_with fail
      refine HCS.out.mono ?_; rintro e5 w5 ⟨rfl, hb5⟩
      have HB5 := Lib.hid (then_ HB2.out (then_ (then_ HB.out HBL.out) hb5))
      clear hb5
      go_wp2_with fail
      refine (l14known_any w5).mono ?_; rintro e6 w6 ⟨rfl, hb6⟩
      have HB6 := Lib.hid (then_ HB5.out hb6)
      clear hb6
      go_wp2
      go_ret
      exact ⟨by trivial, HB6.out⟩
end Go.Proofs.Ythhfjbhopenchaa
