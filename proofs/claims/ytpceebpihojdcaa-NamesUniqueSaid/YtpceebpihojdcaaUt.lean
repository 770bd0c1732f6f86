/- Texts by their runes: plain mathematics (what is written is read again). No Go in it. -/
import Derived.Test.YtpceebpihojdcaaKitR
import Derived.Lib.TrimUEq
import Derived.Laws.Cover4
namespace Go.Proofs.Ytpceebpihojdcaa
open Go.RowKit

theorem u8_of (n : Nat) (h : n < 256) : (UInt8.ofNat n).toNat = n := by simp; omega
set_option maxRecDepth 100000 in
set_option maxHeartbeats 1600000 in
theorem dec_enc (r : Nat) (hr : r < 55296) (t : List UInt8) : Lib.decodeL ((Utf8.encode (r : Int)).data.toList ++ t) = (r, (Utf8.encode (r : Int)).size) := by
  have hv : Utf8.valid (r : Int) = true := by simp [Utf8.valid]; omega
  rw [Lib.decodeL_N]
  unfold Utf8.encode
  simp only [hv, if_true, Int.toNat_natCast]
  by_cases h1 : r < 128
  · simp only [h1, if_true]
    simp only [List.cons_append, List.nil_append, List.getD_cons_zero, List.getD_cons_succ]
    rw [u8_of r (by omega), Lib.decodeN, if_pos (by omega)]
    rfl
  · by_cases h2 : r < 2048
    · simp only [h1, h2, if_true, if_false]
      simp only [List.cons_append, List.nil_append, List.getD_cons_zero, List.getD_cons_succ, List.length_cons]
      rw [u8_of (192 + r / 64) (by omega), u8_of (128 + r % 64) (by omega), Lib.decodeN, if_neg (by omega), if_pos ⟨by omega, by omega, by omega⟩, if_pos (by omega)]
      exact Prod.ext (show (192 + r / 64) % 32 * 64 + (128 + r % 64) % 64 = r by omega) rfl
    · simp only [h1, h2, show r < 65536 from by omega, if_true, if_false]
      simp only [List.cons_append, List.nil_append, List.getD_cons_zero, List.getD_cons_succ, List.length_cons]
      rw [u8_of (224 + r / 4096) (by omega), u8_of (128 + r / 64 % 64) (by omega), u8_of (128 + r % 64) (by omega), Lib.decodeN, if_neg (by omega), if_neg (by omega), if_pos ⟨by omega, ⟨by omega, by omega⟩, by omega, by omega⟩, if_pos ⟨by omega, by omega⟩]
      exact Prod.ext (show (224 + r / 4096) % 16 * 4096 + (128 + r / 64 % 64) % 64 * 64 + (128 + r % 64) % 64 = r by omega) rfl
set_option maxRecDepth 100000 in
theorem enc_pos (r : Int) : 1 ≤ (Utf8.encode r).size := by
  unfold Utf8.encode
  simp only
  repeat' split
  all_goals simp [ByteArray.size]
theorem toL (s : ByteArray) : s.data.toList.length = s.size := Array.length_toList
theorem dec_mid (r : Nat) (hr : r < 55296) (p q : ByteArray) : Utf8.decode (p ++ (Utf8.encode (r : Int) ++ q)) p.size = (r, (Utf8.encode (r : Int)).size) := by
  rw [← Lib.decodeL_drop]
  have : (p ++ (Utf8.encode (r : Int) ++ q)).data.toList.drop p.size = (Utf8.encode (r : Int)).data.toList ++ q.data.toList := by
    simp only [ByteArray.data_append, Array.toList_append]
    rw [← toL p, List.drop_left]
  rw [this, dec_enc r hr]

theorem bytes_cons (r : Int) (l : List Int) : runesBytes (r :: l) = Utf8.encode r ++ runesBytes l := by
  have : ∀ (l : List Int) (a b : ByteArray), l.foldl (fun r n => r ++ Utf8.encode n) (a ++ b) = a ++ l.foldl (fun r n => r ++ Utf8.encode n) b := by
    intro l
    induction l with
    | nil => intro a b; rfl
    | cons x l ih => intro a b; rw [List.foldl_cons, List.foldl_cons, ByteArray.append_assoc, ih]
  have h := this l (Utf8.encode r) ByteArray.empty
  rw [ByteArray.append_empty] at h
  rw [runesBytes, List.foldl_cons, ByteArray.empty_append, h]; rfl
theorem bytes_append (l m : List Int) : runesBytes (l ++ m) = runesBytes l ++ runesBytes m := by
  induction l with
  | nil => rw [List.nil_append, show runesBytes [] = ByteArray.empty from rfl, ByteArray.empty_append]
  | cons x l ih => rw [List.cons_append, bytes_cons, bytes_cons, ih, ByteArray.append_assoc]
theorem runes_at (l : List Int) (hl : ∀ r ∈ l, 0 ≤ r ∧ r < 55296) : ∀ (p : ByteArray) (b : Nat), (runesBytes l).size ≤ b → runesAt (p ++ runesBytes l) b p.size = l := by
  induction l with
  | nil =>
    intro p b _
    have h0 : runesBytes [] = ByteArray.empty := rfl
    rw [h0, ByteArray.append_empty]
    cases b with
    | zero => rfl
    | succ b => rw [runesAt, if_neg (by omega)]
  | cons r l ih =>
    intro p b hb
    obtain ⟨h0, h1⟩ := hl r (by simp)
    obtain ⟨r, rfl⟩ := Int.eq_ofNat_of_zero_le h0
    rw [bytes_cons] at hb ⊢
    rw [ByteArray.size_append] at hb
    have hp := enc_pos (r : Int)
    cases b with
    | zero => omega
    | succ b =>
      rw [runesAt, if_pos (by rw [ByteArray.size_append, ByteArray.size_append]; omega), dec_mid r (by omega)]
      have := ih (fun x hx => hl x (by simp [hx])) (p ++ Utf8.encode (r : Int)) b (by omega)
      rw [ByteArray.size_append, ByteArray.append_assoc] at this
      rw [this]
/-- What is written is read again. -/
theorem runes_bytes (l : List Int) (hl : ∀ r ∈ l, 0 ≤ r ∧ r < 55296) : runesOf (runesBytes l) = l := by
  have := runes_at l hl ByteArray.empty (runesBytes l).size (Nat.le_refl _)
  rw [ByteArray.empty_append] at this
  exact this
end Go.Proofs.Ytpceebpihojdcaa
