/- More words on Sep: a copy over the front of a list of one's own. -/
import Derived.Test.YtihjobpdphljiaaSepC
namespace Go.Proofs.Ytihjobpdphljiaa
open Go.RowKit
variable {P : Program}

theorem run_copy_pre {w : World} {dT sT ty elem : TypeId} (hu : P.underlying dT = some (.slice elem)) (hsz : (P.info? elem).map (·.size) = some 1)
    {base : Nat} {e : TypeId} {g n c k cd : Nat} {zs : List Int} (hO : Own w base e g n c zs) (hk : k ≤ n) {A : Option Addr} {cs : Nat} {xs : List Int} (hI : Ints w A k xs) :
    ∃ w', (Builtin.copy_ #[dT, sT] ty #[.slice (some ⟨g, 0, none⟩) k cd, .slice A k cs]).run P w = .ok (.int .i64 k) w' ∧ Own w' base e g n c (xs ++ zs.drop k) ∧ w.grownBy w' (some g) := by
  by_cases h0 : k = 0
  · subst h0
    obtain rfl : xs = [] := List.eq_nil_of_length_eq_zero hI.len
    exact ⟨w, run_copy_none (P := P) w dT sT ty elem _ _ 0 cd 0 cs hu hsz rfl, by simpa using hO, World.grownBy.refl _ _⟩
  · have hO' := hO
    rcases hO'.1 with ⟨hl, hh⟩
    rcases hh with ⟨h', _⟩ | ⟨g', c', cur, h', hb, hg, hnc, hcm, hcs, hct⟩
    · simp at h'
    · simp only [Value.slice.injEq, Option.some.injEq, Addr.mk.injEq, and_true, true_and] at h'
      obtain ⟨rfl, rfl⟩ := h'
      obtain ⟨ad, rfl, _, hcell⟩ := hI.2.2.2 (by omega)
      have hxl := hI.len
      have hzl := hO.len
      have hcl : (xs.map (Value.int .i64)).length = Nat.min k k := by rw [List.length_map, hxl]; exact (Nat.min_self k).symm
      have hrun := run_copy_row (P := P) w dT sT ty elem g 0 k cd ad k cs cur e (xs.map (Value.int .i64)) hu hsz hg hcl
        (fun j v hv => by
          rw [List.getElem?_map, Option.map_eq_some_iff] at hv
          obtain ⟨x, hx, rfl⟩ := hv
          exact hcell j x hx) (by rw [List.length_map]; omega) (fun v hv => by
          rw [List.mem_map] at hv
          obtain ⟨x, _, rfl⟩ := hv
          rfl)
      have e1 : goInt ((xs.map (Value.int .i64)).length : Nat) = Value.int .i64 k := by rw [List.length_map, hxl]; rfl
      rw [e1] at hrun
      refine ⟨_, hrun, ⟨⟨by simp [hxl, hzl]; omega, .inr ⟨g, c, _, rfl, hb, setRow_heap w g cur _ e _ hg, hnc, hcm, ?_, ?_⟩⟩, ?_, hO.2.2⟩, ⟨rfl, rfl, rfl, by simp [World.setRow], fun j _ hj => setRow_other w g j _ (fun hh => hj (by rw [hh]))⟩⟩
      · simp; omega
      · simp only [Nat.mul_one] at hct ⊢
        rw [List.map_append, List.map_drop, ← hct]
        simp only [List.take_zero, List.nil_append, List.length_map, hxl, Nat.zero_add]
        rw [List.take_append, List.length_map, hxl, List.take_of_length_le (by rw [List.length_map]; omega), List.drop_take]
      · intro x hx
        rcases List.mem_append.1 hx with hx | hx
        · exact hI.fit x hx
        · exact hO.2.1 x (List.mem_of_mem_drop hx)
theorem step_copy_sep {w0 w : World} {ops : Array Oper} {o : Oper} {a : Act} {K : Act → World → Prop} {Q : Exit → Act → World → Prop} {E : Prop} (hgd : o.guard = none) (d s : Operand) (dT sT : TypeId)
    (ho : o.op = .call { callee := .builtin .copy, args := #[d, s], argTypes := #[dT, sT] }) (elem : TypeId) (hu : P.underlying dT = some (.slice elem)) (hsz : (P.info? elem).map (·.size) = some 1)
    {l : List Chunk} (H : Sep w0 w l) (i : Nat) {e : TypeId} {g n c : Nat} {zs : List Int} (hi : l[i]? = some (.own e (.slice (some ⟨g, 0, none⟩) n c) n zs)) (k cd : Nat) (hd : a.eval d = .slice (some ⟨g, 0, none⟩) k cd)
    (A : Option Addr) (cs : Nat) (xs : List Int) (hs : a.eval s = .slice A k cs) (hI : Ints w A k xs) (hk : k ≤ n)
    (h : ∀ w', Sep w0 w' (l.set i (.own e (.slice (some ⟨g, 0, none⟩) n c) n (xs ++ zs.drop k))) → K (a.put o.dst (.int .i64 k)) w') :
    if Region.wanted o (yielded ops a.tmps) = true then Oper.wp P o a w K Q else E := by
  have hw : Region.wanted o (yielded ops a.tmps) = true := by simp [Region.wanted, hgd]
  rw [if_pos hw]
  obtain ⟨w', hr, h2, h3⟩ := run_copy_pre (P := P) (dT := dT) (sT := sT) (ty := o.type) (cd := cd) (cs := cs) hu hsz (H.own i hi) hk hI
  unfold Oper.wp execOp
  simp only [ho, resolve, invoke, builtin, Sem.run_bind, Sem.run_pure, Result.andThen_ok, List.map_toArray, List.map_cons, List.map_nil, hd, hs, hr]
  exact h w' (H.change i hi h3 h2 fun b hb => .inl hb)
end Go.Proofs.Ytihjobpdphljiaa
