/- make([]T, 0, n); Fill of a shape that is right, that is not. -/
import Derived.Test.YtiigbkjkmfjhcaaTenC
import Derived.Test.YtiigbkjkmfjhcaaSepC
namespace Go.Proofs.Ytiigbkjkmfjhcaa
open Go.RowKit
/-- 'make([]T, 0, n)' -/
theorem run_make_room {t e : TypeId} (ht : Try.prog.underlying t = some (.slice e)) (hinfo : (Try.prog.info? e).map (fun i => (i.zero, i.size, i.bytes)) = some (some (.int .i64 0), 1, 8))
    {n : Nat} (hn : n ≤ 17592186044000) (w : World) :
    (Instr.makeSlice t (.int .i64 0) (.int .i64 n)).run Try.prog w = .ok (.slice (some ⟨w.heap.size, 0, none⟩) 0 n) (w.alloc (.cells (noughts n) e)) := by
  obtain ⟨i, hi, hz0, hz1, hz2⟩ := info_parts hinfo
  have := run_make (P := Try.prog) w t e i (.int .i64 0) ht hi hz0 .i64 .i64 0 n (by omega) (by omega) (by rw [hz2]; omega) (by omega)
  rw [this, hz1]
  simp only [Int.toNat_natCast, Nat.mul_one]
  rw [← madeCells_noughts]; rfl
theorem Sep.room {w0 w : World} {l : List Chunk} (h : Sep w0 w l) (e : TypeId) (n : Nat) (hn : n ≤ 17592186044000) : Sep w0 (w.alloc (.cells (Go.Proofs.Ytiigbkjkmfjhcaa.noughts n) e)) (.own e (.slice (some ⟨w.heap.size, 0, none⟩) 0 n) 0 [] :: l) :=
  h.addOwn ((Below.refl _ _).alloc (Nat.le_refl _) _) ⟨⟨rfl, .inr ⟨w.heap.size, n, Go.Proofs.Ytiigbkjkmfjhcaa.noughts n, rfl, Nat.le_refl _, heap_alloc_new _ _, Nat.zero_le _, by unfold maxLen; omega, by simp [Go.Proofs.Ytiigbkjkmfjhcaa.noughts], by simp⟩⟩, by simp, by omega⟩
theorem tFillOk {w : World} {A : Option Addr} {n c : Nat} {s : List Int} (x : Int) (h : Ints w A n s) (hx : Fits x) (hr : Sh.right s = true) :
    Calls Try.prog 24 #[.slice A n c, .int .i64 x] w fun e w' => (∃ v, e = .returned (.tuple #[v, .int .i64 0]) ∧ OTen w' w.heap.size v s (List.replicate (Sh.size s).toNat x)) ∧ Below w.heap.size w w' := by
  have := tFill_any (c := c) x h hx
  rwa [fillErr_true hr, fillS_true hr, fillD_true hr] at this
theorem tFillNo {w : World} {A : Option Addr} {n c : Nat} {s : List Int} (x : Int) (h : Ints w A n s) (hx : Fits x) (hr : Sh.right s = false) :
    Calls Try.prog 24 #[.slice A n c, .int .i64 x] w fun e w' => (∃ v, e = .returned (.tuple #[v, .int .i64 13]) ∧ OTen w' w.heap.size v [] []) ∧ Below w.heap.size w w' := by
  have := tFill_any (c := c) x h hx
  rwa [fillErr_false hr, fillS_false hr, fillD_false hr] at this
end Go.Proofs.Ytiigbkjkmfjhcaa
