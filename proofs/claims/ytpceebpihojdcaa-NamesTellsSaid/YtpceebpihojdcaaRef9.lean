/- The contract of the ninth reference's Runes. -/
import Derived.Test.YtpceebpihojdcaaRows
import Derived.Test.YtpceebpihojdcaaKitR
import Derived.Laws.RangeAny
namespace Go.Proofs.Ytpceebpihojdcaa
open Go.RowKit

theorem Try.infoI32 : (Try.prog.info? 21).map (fun i => (i.zero, i.size, i.bytes)) = some (some (.int .i32 0), 1, 4) := by kernel_rfl

theorem iterPos_at {w : World} {k pos : Nat} {s : ByteArray} (h : w.heap[k]? = some (.stringIter s pos)) : w.iterPos k = pos := by simp [World.iterPos, h]

set_option maxRecDepth 100000 in
set_option maxHeartbeats 1600000 in
theorem refRunes_any (w : World) (s : ByteArray) (hs : s.size ≤ 17592186044000) :
    Calls Try.prog 21 #[.string s] w fun e w' => (∃ v n, e = .returned v ∧ OwnRS w' w.heap.size 21 v n (runesOf s)) ∧ Below w.heap.size w w' := by
  have hi := World.iter_heap w s 0
  have hb : Below w.heap.size w (w.iter s 0) := (Below.refl _ _).alloc (Nat.le_refl _) _
  have hz : (w.iter s 0).heap.size = w.heap.size + 1 := by simp [World.iter]
  have HS := Lib.hid hs
  clear hs
  go_enter Try.func21, Try.ntmps21
  go_wp2_with fail
  generalize w.iter s 0 = w1 at *
  go_loopw [3] (fun v wr => ∃ (pos n : Nat) (xs : List Int), wr.heap[w.heap.size]? = some (.stringIter s pos) ∧ OwnRS wr (w.heap.size + 1) 21 v n xs ∧ xs ++ runesAt s s.size pos = runesOf s ∧ n ≤ pos ∧ Below w.heap.size w wr) (fun _ w' => s.size - w'.iterPos w.heap.size)
  case atStart => exact ⟨0, 0, [], hi, OwnRS.nil_ _ _ _, rfl, by omega, hb⟩
  case round =>
    clear hi hb hz
    obtain ⟨pos, n, xs, hi, hO, hx, hn, hB⟩ := hrel
    have hs := HS.out
    have HB := Lib.hid hB
    have HI := Lib.hid hi
    have hkl : w.heap.size < wr.heap.size := by
      rcases Nat.lt_or_ge w.heap.size wr.heap.size with hl | hl
      · exact hl
      · rw [Array.getElem?_eq_none hl] at hi; cases hi
    by_cases hlt : pos < s.size
    · have hnx := fun ty => run_next_at (P := Try.prog) hi hlt ty
      have hg := iterAt_grown (w := wr) (s := s) (k := w.heap.size) (pos := pos + (Utf8.decode s pos).2)
      have hi2 := iterAt_heap (w := wr) (s := s) (pos := pos + (Utf8.decode s pos).2) hkl
      have hO2 := hO.grown hg (by omega)
      have hB2 := below_of_grown hB (by omega) hg (Nat.le_refl _)
      have hw := decode_width s pos hlt
      have hf := rune_fits s pos
      have hst := runesAt_step s hlt
      generalize iterAt_ wr w.heap.size s (pos + (Utf8.decode s pos).2) = w2 at *
      have HI2 := Lib.hid hi2
      have HO2 := Lib.hid hO2
      have HB2 := Lib.hid hB2
      have HST := Lib.hid hst
      have HX := Lib.hid hx
      have HF := Lib.hid hf
      have hz2 : w.heap.size < w2.heap.size := by have := hg.size; omega
      clear hi hg hi2 hO hO2 hB2 hst hx hB hs hf
      generalize hdr : (Utf8.decode s pos).1 = dr at *
      generalize hdw : (Utf8.decode s pos).2 = dw at *
      clear hdr hdw
      go_wp2_with (at_builtin; refine wpList_append_rune rfl _ _ 33 21 rfl Try.underlying33 Try.infoI32 (w.heap.size + 1) _ n xs rfl HO2.out ?c1 (dr : Int) ?c2 _ rfl ?c3 ?_)
      case c1 => omega
      case c2 => exact HF.out
      case c3 => have := HS.out; omega
      intro v' w3 hO3 hB3 hg3
      have hi3 := (hB3.block w.heap.size (by omega)).trans HI2.out
      have hB4 := HB2.out.trans (hB3.mono (by omega))
      have HI3 := Lib.hid hi3
      clear hi3 hB3 hg3 hnx
      go_wp2
      go_roundw
      case rel => exact ⟨pos + dw, n + 1, xs ++ [(dr : Int)], HI3.out, hO3, by rw [← HX.out, HST.out]; simp, by omega, hB4⟩
      case measure => rw [iterPos_at HI3.out, iterPos_at HI.out]; omega
    · have hnx := fun ty => run_next_over (P := Try.prog) hi hlt ty
      have hxs : xs = runesOf s := by rw [← hx, runesAt_end s hlt, List.append_nil]
      have HXS := Lib.hid hxs
      have HO := Lib.hid hO
      clear hi hxs hx hO hB hs
      go_wp2
      go_ret
      exact ⟨⟨_, n, rfl, by rw [← HXS.out]; exact HO.out.mono (by omega)⟩, HB.out⟩
end Go.Proofs.Ytpceebpihojdcaa
