/- Same of lists of 64 bits, cuts of lists. -/
import Derived.Test.YtihjobpdphljiaaRef7
namespace Go.Proofs.Ytihjobpdphljiaa
open Go.RowKit

set_option maxHeartbeats 400000 in
theorem bookSame64_any {w : World} {A B : Option Addr} {n c m d : Nat} {xs ys : List Int} (h : Ints w A n xs) (g : Ints w B m ys) :
    Calls Try.prog 19 #[.slice A n c, .slice B m d] w fun e w' => e = .returned (.bool (xs == ys)) ∧ ∃ k, w' = w.drewN k := by
  have hn := h.len
  have hm := g.len
  have hle := h.le
  have hme := g.le
  by_cases hnm : n = m
  · subst hnm
    have H1 := Lib.hid hn; clear hn
    have H2 := Lib.hid hm; clear hm
    go_enter Try.func19, Try.ntmps19
    go_wp2
    go_loopw [5] (fun i wr => ∃ k : Nat, k ≤ n ∧ i = .int .i64 k ∧ xs.take k = ys.take k ∧ ∃ q, wr = w.drewN q) (fun i _ => n - (intOf i).toNat)
    case atStart => exact ⟨0, Nat.zero_le _, rfl, rfl, 0, rfl⟩
    case round =>
      obtain ⟨k, hk, rfl, hd, q, rfl⟩ := hrel
      have HD := Lib.hid hd; clear hd
      by_cases hlt : k < n
      · obtain ⟨ad, x, rfl, hb, hx, hc, hf⟩ := h.at_ hlt
        obtain ⟨bd, y, rfl, hb', hy, hc', hf'⟩ := g.at_ hlt
        have H := Lib.hid hx; clear hx
        have G := Lib.hid hy; clear hy
        by_cases hxy : x = y
        · subst hxy
          go_wp2
          go_quiet (fail)
          go_wp2
          go_roundw
          case rel => exact ⟨k + 1, by omega, by go_num, take_same H.out G.out HD.out, _, rfl⟩
          case measure => simp [intOf]; omega
        · have HX := Lib.hid (ne_of_at H.out G.out hxy)
          have hb : (x != y) = true := by simpa using hxy
          go_wp2
          go_quiet (fail)
          go_wp2
          go_ret
          exact ⟨ret_bool HX.out.symm, _, World.drewN_drewN _ _ _⟩
      · have HX := Lib.hid (eq_of_take H1.out H2.out (by omega) HD.out)
        go_wp2
        go_ret
        exact ⟨ret_bool HX.out.symm, _, rfl⟩
  · have HX := Lib.hid (p := (xs == ys) = false) (by rw [beq_eq_false_iff_ne]; rintro rfl; exact hnm (hn.symm.trans hm))
    have H1 := Lib.hid hn; clear hn
    have H2 := Lib.hid hm; clear hm
    have hb : ((n : Int) != (m : Int)) = true := by simp; omega
    go_enter Try.func19, Try.ntmps19
    go_wp2
    go_ret
    exact ⟨ret_bool HX.out.symm, 0, rfl⟩
theorem bookSame64_eq {w : World} {A B : Option Addr} {n c m d : Nat} {xs : List Int} (h : Ints w A n xs) (g : Ints w B m xs) :
    Calls Try.prog 19 #[.slice A n c, .slice B m d] w fun e w' => e = .returned (.bool true) ∧ ∃ k, w' = w.drewN k :=
  (bookSame64_any h g).mono fun _ _ ⟨he, hw⟩ => ⟨by rw [he]; simp, hw⟩
theorem Ints.cut {w : World} {A : Option Addr} {n : Nat} {xs : List Int} (h : Ints w A n xs) {lo hi c : Nat} (h1 : lo ≤ hi) (h2 : hi ≤ n) (hc : n ≤ c) : Ints w (Go.Proofs.Ytihjobpdphljiaa.dropA A c lo) (hi - lo) ((xs.drop lo).take (hi - lo)) :=
  (h.dropA (by omega) hc).take (by omega)
/-- l[lo:hi] of a list of 64 bits. -/
theorem run_cut64 {A : Addr} {n c lo hi : Nat} (h1 : lo ≤ hi) (h2 : hi ≤ n) (hc : n ≤ c) : ∀ w, (Instr.slice 24 (.slice (some A) n c) (some (.int .i64 (lo : Int))) (some (.int .i64 (hi : Int))) none).run Try.prog w = .ok (.slice (dropA (some A) c lo) (hi - lo) (c - lo)) w := by
  intro w
  have hu : Try.prog.underlying 24 = some (.slice 2) := by kernel_rfl
  have h3 : hi ≤ c := by omega
  by_cases hcl : c = lo
  · subst hcl
    go_simp
    rw [dropA, if_pos rfl]
  · go_simp
    rw [dropA, if_neg hcl]
    rfl
theorem run_pre64 {A : Addr} {n c hi : Nat} (h2 : hi ≤ n) (hc : n ≤ c) : ∀ w, (Instr.slice 24 (.slice (some A) n c) none (some (.int .i64 (hi : Int))) none).run Try.prog w = .ok (.slice (some A) hi c) w := by
  intro w
  have hu : Try.prog.underlying 24 = some (.slice 2) := by kernel_rfl
  have h3 : hi ≤ c := by omega
  go_simp
end Go.Proofs.Ytihjobpdphljiaa
