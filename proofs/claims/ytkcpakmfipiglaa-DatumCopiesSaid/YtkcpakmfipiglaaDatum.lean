/- Values by their types; contracts of package datum. -/
import Derived.Test.YtkcpakmfipiglaaL3Base
import Derived.WalkLawsBesides
import Derived.WalkSpells
namespace Go.Proofs.Ytkcpakmfipiglaa
open Go.RowKit

def rowT (l : List Int) : Option (List Int × List Int) := if l.length ≤ 32 then some ([(l.length : Int)], l) else none
def tenT (s d : List Int) : Option (List Int × List Int) := if tenRight s d then some (s, d) else none

theorem zv_int (W : World) : (do pure (Value.tuple #[← zeroValue 3, .bool false]) : Sem Value).run Try.prog W = .ok (.tuple #[.int .i64 0, .bool false]) W := by kernel_rfl
theorem as_int_yes (v : Value) (W : World) : (Instr.typeAssert (.iface 3 v) 20 3 true).run Try.prog W = .ok (.tuple #[v, .bool true]) W := by kernel_rfl
theorem as_int_nil (W : World) : (Instr.typeAssert .nilIface 20 3 true).run Try.prog W = .ok (.tuple #[.int .i64 0, .bool false]) W := by kernel_rfl
theorem as_int_no {u : TypeId} (h : u ≠ 3) (v : Value) (W : World) : (Instr.typeAssert (.iface u v) 20 3 true).run Try.prog W = .ok (.tuple #[.int .i64 0, .bool false]) W := by
  have e : (Instr.typeAssert (.iface u v) 20 3 true).run Try.prog W = (if u = 3 then (pure (Value.tuple #[v, .bool true]) : Sem Value) else (do pure (Value.tuple #[← zeroValue 3, .bool false]))).run Try.prog W := by kernel_rfl
  rw [e, if_neg h]
  exact zv_int W
theorem zv_int64 (W : World) : (do pure (Value.tuple #[← zeroValue 2, .bool false]) : Sem Value).run Try.prog W = .ok (.tuple #[.int .i64 0, .bool false]) W := by kernel_rfl
theorem as_int64_yes (v : Value) (W : World) : (Instr.typeAssert (.iface 2 v) 20 2 true).run Try.prog W = .ok (.tuple #[v, .bool true]) W := by kernel_rfl
theorem as_int64_nil (W : World) : (Instr.typeAssert .nilIface 20 2 true).run Try.prog W = .ok (.tuple #[.int .i64 0, .bool false]) W := by kernel_rfl
theorem as_int64_no {u : TypeId} (h : u ≠ 2) (v : Value) (W : World) : (Instr.typeAssert (.iface u v) 20 2 true).run Try.prog W = .ok (.tuple #[.int .i64 0, .bool false]) W := by
  have e : (Instr.typeAssert (.iface u v) 20 2 true).run Try.prog W = (if u = 2 then (pure (Value.tuple #[v, .bool true]) : Sem Value) else (do pure (Value.tuple #[← zeroValue 2, .bool false]))).run Try.prog W := by kernel_rfl
  rw [e, if_neg h]
  exact zv_int64 W
theorem zv_row (W : World) : (do pure (Value.tuple #[← zeroValue 23, .bool false]) : Sem Value).run Try.prog W = .ok (.tuple #[.slice none 0 0, .bool false]) W := by kernel_rfl
theorem as_row_yes (v : Value) (W : World) : (Instr.typeAssert (.iface 23 v) 20 23 true).run Try.prog W = .ok (.tuple #[v, .bool true]) W := by kernel_rfl
theorem as_row_nil (W : World) : (Instr.typeAssert .nilIface 20 23 true).run Try.prog W = .ok (.tuple #[.slice none 0 0, .bool false]) W := by kernel_rfl
theorem as_row_no {u : TypeId} (h : u ≠ 23) (v : Value) (W : World) : (Instr.typeAssert (.iface u v) 20 23 true).run Try.prog W = .ok (.tuple #[.slice none 0 0, .bool false]) W := by
  have e : (Instr.typeAssert (.iface u v) 20 23 true).run Try.prog W = (if u = 23 then (pure (Value.tuple #[v, .bool true]) : Sem Value) else (do pure (Value.tuple #[← zeroValue 23, .bool false]))).run Try.prog W := by kernel_rfl
  rw [e, if_neg h]
  exact zv_row W
theorem zv_ten (W : World) : (do pure (Value.tuple #[← zeroValue 26, .bool false]) : Sem Value).run Try.prog W = .ok (.tuple #[.agg #[.slice none 0 0, .slice none 0 0], .bool false]) W := by kernel_rfl
theorem as_ten_yes (v : Value) (W : World) : (Instr.typeAssert (.iface 26 v) 20 26 true).run Try.prog W = .ok (.tuple #[v, .bool true]) W := by kernel_rfl
theorem as_ten_nil (W : World) : (Instr.typeAssert .nilIface 20 26 true).run Try.prog W = .ok (.tuple #[.agg #[.slice none 0 0, .slice none 0 0], .bool false]) W := by kernel_rfl
theorem as_ten_no {u : TypeId} (h : u ≠ 26) (v : Value) (W : World) : (Instr.typeAssert (.iface u v) 20 26 true).run Try.prog W = .ok (.tuple #[.agg #[.slice none 0 0, .slice none 0 0], .bool false]) W := by
  have e : (Instr.typeAssert (.iface u v) 20 26 true).run Try.prog W = (if u = 26 then (pure (Value.tuple #[v, .bool true]) : Sem Value) else (do pure (Value.tuple #[← zeroValue 26, .bool false]))).run Try.prog W := by kernel_rfl
  rw [e, if_neg h]
  exact zv_ten W
theorem zv_ptr (W : World) : (do pure (Value.tuple #[← zeroValue 39, .bool false]) : Sem Value).run Try.prog W = .ok (.tuple #[.pointer none, .bool false]) W := by kernel_rfl
theorem as_ptr_yes (v : Value) (W : World) : (Instr.typeAssert (.iface 39 v) 20 39 true).run Try.prog W = .ok (.tuple #[v, .bool true]) W := by kernel_rfl
theorem as_ptr_nil (W : World) : (Instr.typeAssert .nilIface 20 39 true).run Try.prog W = .ok (.tuple #[.pointer none, .bool false]) W := by kernel_rfl
theorem as_ptr_no {u : TypeId} (h : u ≠ 39) (v : Value) (W : World) : (Instr.typeAssert (.iface u v) 20 39 true).run Try.prog W = .ok (.tuple #[.pointer none, .bool false]) W := by
  have e : (Instr.typeAssert (.iface u v) 20 39 true).run Try.prog W = (if u = 39 then (pure (Value.tuple #[v, .bool true]) : Sem Value) else (do pure (Value.tuple #[← zeroValue 39, .bool false]))).run Try.prog W := by kernel_rfl
  rw [e, if_neg h]
  exact zv_ptr W
theorem zv_text (W : World) : (do pure (Value.tuple #[← zeroValue 9, .bool false]) : Sem Value).run Try.prog W = .ok (.tuple #[.string ⟨#[]⟩, .bool false]) W := by kernel_rfl
theorem as_text_yes (v : Value) (W : World) : (Instr.typeAssert (.iface 9 v) 20 9 true).run Try.prog W = .ok (.tuple #[v, .bool true]) W := by kernel_rfl
theorem as_text_nil (W : World) : (Instr.typeAssert .nilIface 20 9 true).run Try.prog W = .ok (.tuple #[.string ⟨#[]⟩, .bool false]) W := by kernel_rfl
theorem as_text_no {u : TypeId} (h : u ≠ 9) (v : Value) (W : World) : (Instr.typeAssert (.iface u v) 20 9 true).run Try.prog W = .ok (.tuple #[.string ⟨#[]⟩, .bool false]) W := by
  have e : (Instr.typeAssert (.iface u v) 20 9 true).run Try.prog W = (if u = 9 then (pure (Value.tuple #[v, .bool true]) : Sem Value) else (do pure (Value.tuple #[← zeroValue 9, .bool false]))).run Try.prog W := by kernel_rfl
  rw [e, if_neg h]
  exact zv_text W
theorem zv_many (W : World) : (do pure (Value.tuple #[← zeroValue 42, .bool false]) : Sem Value).run Try.prog W = .ok (.tuple #[.slice none 0 0, .bool false]) W := by kernel_rfl
theorem as_many_yes (v : Value) (W : World) : (Instr.typeAssert (.iface 42 v) 20 42 true).run Try.prog W = .ok (.tuple #[v, .bool true]) W := by kernel_rfl
theorem as_many_nil (W : World) : (Instr.typeAssert .nilIface 20 42 true).run Try.prog W = .ok (.tuple #[.slice none 0 0, .bool false]) W := by kernel_rfl
theorem as_many_no {u : TypeId} (h : u ≠ 42) (v : Value) (W : World) : (Instr.typeAssert (.iface u v) 20 42 true).run Try.prog W = .ok (.tuple #[.slice none 0 0, .bool false]) W := by
  have e : (Instr.typeAssert (.iface u v) 20 42 true).run Try.prog W = (if u = 42 then (pure (Value.tuple #[v, .bool true]) : Sem Value) else (do pure (Value.tuple #[← zeroValue 42, .bool false]))).run Try.prog W := by kernel_rfl
  rw [e, if_neg h]
  exact zv_many W

theorem as_row1 (v : Value) (W : World) : (Instr.typeAssert (.iface 23 v) 20 23 false).run Try.prog W = .ok v W := by kernel_rfl
theorem as_text1 (v : Value) (W : World) : (Instr.typeAssert (.iface 9 v) 20 9 false).run Try.prog W = .ok v W := by kernel_rfl
theorem as_ten1 (v : Value) (W : World) : (Instr.typeAssert (.iface 26 v) 20 26 false).run Try.prog W = .ok v W := by kernel_rfl

/-- None of the types that the chapter names. -/
def Other (t : TypeId) : Prop := t ≠ 3 ∧ t ≠ 2 ∧ t ≠ 23 ∧ t ≠ 26 ∧ t ≠ 39 ∧ t ≠ 9 ∧ t ≠ 42

/-- The interface value v is, in w, of kind k, and its tensor is o. -/
inductive Datum (w : World) : Value → Int → Option (List Int × List Int) → Prop
  | whole64 (n : Int) (h : Fits n) : Datum w (.iface 2 (.int .i64 n)) 1 (some ([], [n]))
  | whole (n : Int) (h : Fits n) : Datum w (.iface 3 (.int .i64 n)) 1 (some ([], [n]))
  | row {A : Option Addr} {n c : Nat} {l : List Int} (h : Ints w A n l) (hn : n ≤ 17592186044000) (hc : n ≤ c) : Datum w (.iface 23 (.slice A n c)) 2 (rowT l)
  | text (s : ByteArray) : Datum w (.iface 9 (.string s)) 4 (rowT (runesOf s))
  | full {v : Value} {s d : List Int} (h : Ten w v s d) : Datum w (.iface 26 v) 3 (tenT s d)
  | ptr {g : Nat} {x y : Value} {s d : List Int} (hg : w.heap[g]? = some (.cells #[x, y] 26 (0, 0))) (h : Ten w (.agg #[x, y]) s d) : Datum w (.iface 39 (.pointer (some ⟨g, 0, none⟩))) 3 (tenT s d)
  | many {A : Option Addr} {n c : Nat} : Datum w (.iface 42 (.slice A n c)) 5 none
  | nilPtr : Datum w (.iface 39 (.pointer none)) 0 none
  | nil : Datum w .nilIface 0 none
  | other {t : TypeId} {v : Value} (h : Other t) : Datum w (.iface t v) 0 none
/-- If it is a text, one that leaves room for its runes. -/
def Small (v : Value) : Prop := ∀ s : ByteArray, v = .iface 9 (.string s) → s.size ≤ 17592186044000
theorem Datum.below {w w' : World} {v : Value} {k : Int} {o : Option (List Int × List Int)} (h : Datum w v k o) (hb : Below w.heap.size w w') : Datum w' v k o := by
  cases h with
  | whole64 n h => exact .whole64 n h
  | whole n h => exact .whole n h
  | row h hn hc => exact .row (h.below hb) hn hc
  | text s => exact .text s
  | full h => exact .full (h.below hb)
  | ptr hg h => exact .ptr ((hb.block _ (block_lt_of_cell (cell0_of hg))).trans hg) (h.below hb)
  | many => exact .many
  | nilPtr => exact .nilPtr
  | nil => exact .nil
  | other h => exact .other h

set_option maxHeartbeats 1600000 in
/-- whole: the number of a Whole, and whether it is one. -/
theorem dWhole_any {w : World} {v : Value} {k : Int} {o : Option (List Int × List Int)} (h : Datum w v k o) :
    Calls Try.prog 31 #[v] w fun e w' => (∃ (n : Int) (b : Bool), e = .returned (.tuple #[.int .i64 n, .bool b]) ∧ b = decide (k = 1) ∧ (k = 1 → o = some ([], [n]) ∧ Fits n)) ∧ w = w' := by
  cases h with
  | whole64 n h =>
    have hF := h
    have HF := Lib.hid hF
    clear hF h
    have a0 := as_int_no (u := 2) (by decide) (.int .i64 n)
    have a1 := as_int64_yes (.int .i64 n)
    go_enter Try.func31, Try.ntmps31
    go_wp2
    go_ret2
    exact ⟨⟨n, true, rfl, rfl, fun _ => ⟨rfl, HF.out⟩⟩, rfl⟩
  | whole n h =>
    have hF := h
    have HF := Lib.hid hF
    clear hF h
    have a0 := as_int_yes (.int .i64 n)
    have a1 := as_int64_no (u := 3) (by decide) (.int .i64 n)
    go_enter Try.func31, Try.ntmps31
    go_wp2
    go_ret2
    exact ⟨⟨n, true, rfl, rfl, fun _ => ⟨rfl, HF.out⟩⟩, rfl⟩
  | @row A n c l h hn hc =>
    have a0 := as_int_no (u := 23) (by decide) (.slice A n c)
    have a1 := as_int64_no (u := 23) (by decide) (.slice A n c)
    go_enter Try.func31, Try.ntmps31
    go_wp2
    go_ret2
    exact ⟨⟨0, false, rfl, rfl, fun hk => absurd hk (by decide)⟩, rfl⟩
  | text s =>
    have a0 := as_int_no (u := 9) (by decide) (.string s)
    have a1 := as_int64_no (u := 9) (by decide) (.string s)
    go_enter Try.func31, Try.ntmps31
    go_wp2
    go_ret2
    exact ⟨⟨0, false, rfl, rfl, fun hk => absurd hk (by decide)⟩, rfl⟩
  | @full v s d h =>
    have a0 := as_int_no (u := 26) (by decide) (v)
    have a1 := as_int64_no (u := 26) (by decide) (v)
    go_enter Try.func31, Try.ntmps31
    go_wp2
    go_ret2
    exact ⟨⟨0, false, rfl, rfl, fun hk => absurd hk (by decide)⟩, rfl⟩
  | @ptr g x y s d hg h =>
    have a0 := as_int_no (u := 39) (by decide) (.pointer (some ⟨g, 0, none⟩))
    have a1 := as_int64_no (u := 39) (by decide) (.pointer (some ⟨g, 0, none⟩))
    go_enter Try.func31, Try.ntmps31
    go_wp2
    go_ret2
    exact ⟨⟨0, false, rfl, rfl, fun hk => absurd hk (by decide)⟩, rfl⟩
  | @many A n c =>
    have a0 := as_int_no (u := 42) (by decide) (.slice A n c)
    have a1 := as_int64_no (u := 42) (by decide) (.slice A n c)
    go_enter Try.func31, Try.ntmps31
    go_wp2
    go_ret2
    exact ⟨⟨0, false, rfl, rfl, fun hk => absurd hk (by decide)⟩, rfl⟩
  | nilPtr =>
    have a0 := as_int_no (u := 39) (by decide) (.pointer none)
    have a1 := as_int64_no (u := 39) (by decide) (.pointer none)
    go_enter Try.func31, Try.ntmps31
    go_wp2
    go_ret2
    exact ⟨⟨0, false, rfl, rfl, fun hk => absurd hk (by decide)⟩, rfl⟩
  | nil =>
    have a0 := as_int_nil
    have a1 := as_int64_nil
    go_enter Try.func31, Try.ntmps31
    go_wp2
    go_ret2
    exact ⟨⟨0, false, rfl, rfl, fun hk => absurd hk (by decide)⟩, rfl⟩
  | @other t v h =>
    obtain ⟨h1, h2, h3, h4, h5, h6, h7⟩ := h
    have a0 := as_int_no (u := t) h1 (v)
    have a1 := as_int64_no (u := t) h2 (v)
    clear h1 h2 h3 h4 h5 h6 h7
    go_enter Try.func31, Try.ntmps31
    go_wp2
    go_ret2
    exact ⟨⟨0, false, rfl, rfl, fun hk => absurd hk (by decide)⟩, rfl⟩
set_option maxHeartbeats 3200000 in
/-- full: the tensor of a Full, and whether it is one. -/
theorem dFull_any {w : World} {v : Value} {k : Int} {o : Option (List Int × List Int)} (h : Datum w v k o) :
    Calls Try.prog 32 #[v] w fun e w' => (∃ (u : Value) (b : Bool) (s d : List Int), e = .returned (.tuple #[u, .bool b]) ∧ b = decide (k = 3) ∧ Ten w' u s d ∧ (k = 3 → o = tenT s d)) ∧ Below w.heap.size w w' := by
  have hz := (Below.refl w.heap.size w).alloc (Nat.le_refl _) (.cells #[.slice none 0 0, .slice none 0 0] 26)
  have hzb := heap_alloc_new w (.cells #[.slice none 0 0, .slice none 0 0] 26)
  have hzs := size_alloc w (.cells #[.slice none 0 0, .slice none 0 0] 26)
  have hr2 := Try.results32
  cases h with
  | whole64 n h =>
    have a3 := as_ten_no (u := 2) (by decide) (.int .i64 n)
    have a4 := as_ptr_no (u := 2) (by decide) (.int .i64 n)
    go_enter Try.func32, Try.ntmps32
    go_upto_region 1 with fail
    generalize w.alloc (.cells #[.slice none 0 0, .slice none 0 0] 26) = wz at *
    have hd0 := cell0_of hzb
    have hd1 := cell1_of hzb
    have f0 := frozen_of_row _ _ 0 _ _ hzb
    have f1 := frozen_of_row _ _ 1 _ _ hzb
    have hx := (Below.refl wz.heap.size wz).alloc (Nat.le_refl _) (.cells #[.slice none 0 0, .slice none 0 0] 26)
    have hxb := heap_alloc_new wz (.cells #[.slice none 0 0, .slice none 0 0] 26)
    have hz2 := (hx.block w.heap.size (by rw [hzs]; omega)).trans hzb
    have HZ := Lib.hid (then_ hz hx)
    have HR := Lib.hid hr2
    clear hz hzb hzs hx hr2 hd0 hd1 f0 f1
    go_upto_region 5 with fail
    generalize wz.alloc (.cells #[.slice none 0 0, .slice none 0 0] 26) = wy at *
    have hd0 := cell0_of hz2
    have hd1 := cell1_of hz2
    have f0 := frozen_of_row _ _ 0 _ _ hz2
    have f1 := frozen_of_row _ _ 1 _ _ hz2
    have e0 := cell0_of hxb
    have e1 := cell1_of hxb
    have HZB := Lib.hid hz2
    clear hz2 hxb
    go_wp2
    refine ret_ten2 w.heap.size _ _ (.bool false) HR.out rfl rfl (block_set2 HZB.out _ _) rfl ?_
    have hgr := grown_trans (grown_setCell wy w.heap.size 0 (.slice none 0 0)) (grown_setCell _ w.heap.size 1 (.slice none 0 0))
    exact ⟨⟨_, false, [], [], rfl, rfl, ten_mk (Ints.nil_ _ _) (Nat.le_refl _) (Ints.nil_ _ _) (Nat.le_refl _), fun hk => absurd hk (by decide)⟩, (HZ.out.setCell (Nat.le_refl _) _).setCell (Nat.le_refl _) _⟩
  | whole n h =>
    have a3 := as_ten_no (u := 3) (by decide) (.int .i64 n)
    have a4 := as_ptr_no (u := 3) (by decide) (.int .i64 n)
    go_enter Try.func32, Try.ntmps32
    go_upto_region 1 with fail
    generalize w.alloc (.cells #[.slice none 0 0, .slice none 0 0] 26) = wz at *
    have hd0 := cell0_of hzb
    have hd1 := cell1_of hzb
    have f0 := frozen_of_row _ _ 0 _ _ hzb
    have f1 := frozen_of_row _ _ 1 _ _ hzb
    have hx := (Below.refl wz.heap.size wz).alloc (Nat.le_refl _) (.cells #[.slice none 0 0, .slice none 0 0] 26)
    have hxb := heap_alloc_new wz (.cells #[.slice none 0 0, .slice none 0 0] 26)
    have hz2 := (hx.block w.heap.size (by rw [hzs]; omega)).trans hzb
    have HZ := Lib.hid (then_ hz hx)
    have HR := Lib.hid hr2
    clear hz hzb hzs hx hr2 hd0 hd1 f0 f1
    go_upto_region 5 with fail
    generalize wz.alloc (.cells #[.slice none 0 0, .slice none 0 0] 26) = wy at *
    have hd0 := cell0_of hz2
    have hd1 := cell1_of hz2
    have f0 := frozen_of_row _ _ 0 _ _ hz2
    have f1 := frozen_of_row _ _ 1 _ _ hz2
    have e0 := cell0_of hxb
    have e1 := cell1_of hxb
    have HZB := Lib.hid hz2
    clear hz2 hxb
    go_wp2
    refine ret_ten2 w.heap.size _ _ (.bool false) HR.out rfl rfl (block_set2 HZB.out _ _) rfl ?_
    have hgr := grown_trans (grown_setCell wy w.heap.size 0 (.slice none 0 0)) (grown_setCell _ w.heap.size 1 (.slice none 0 0))
    exact ⟨⟨_, false, [], [], rfl, rfl, ten_mk (Ints.nil_ _ _) (Nat.le_refl _) (Ints.nil_ _ _) (Nat.le_refl _), fun hk => absurd hk (by decide)⟩, (HZ.out.setCell (Nat.le_refl _) _).setCell (Nat.le_refl _) _⟩
  | @row A n c l h hn hc =>
    have a3 := as_ten_no (u := 23) (by decide) (.slice A n c)
    have a4 := as_ptr_no (u := 23) (by decide) (.slice A n c)
    go_enter Try.func32, Try.ntmps32
    go_upto_region 1 with fail
    generalize w.alloc (.cells #[.slice none 0 0, .slice none 0 0] 26) = wz at *
    have hd0 := cell0_of hzb
    have hd1 := cell1_of hzb
    have f0 := frozen_of_row _ _ 0 _ _ hzb
    have f1 := frozen_of_row _ _ 1 _ _ hzb
    have hx := (Below.refl wz.heap.size wz).alloc (Nat.le_refl _) (.cells #[.slice none 0 0, .slice none 0 0] 26)
    have hxb := heap_alloc_new wz (.cells #[.slice none 0 0, .slice none 0 0] 26)
    have hz2 := (hx.block w.heap.size (by rw [hzs]; omega)).trans hzb
    have HZ := Lib.hid (then_ hz hx)
    have HR := Lib.hid hr2
    clear hz hzb hzs hx hr2 hd0 hd1 f0 f1
    go_upto_region 5 with fail
    generalize wz.alloc (.cells #[.slice none 0 0, .slice none 0 0] 26) = wy at *
    have hd0 := cell0_of hz2
    have hd1 := cell1_of hz2
    have f0 := frozen_of_row _ _ 0 _ _ hz2
    have f1 := frozen_of_row _ _ 1 _ _ hz2
    have e0 := cell0_of hxb
    have e1 := cell1_of hxb
    have HZB := Lib.hid hz2
    clear hz2 hxb
    go_wp2
    refine ret_ten2 w.heap.size _ _ (.bool false) HR.out rfl rfl (block_set2 HZB.out _ _) rfl ?_
    have hgr := grown_trans (grown_setCell wy w.heap.size 0 (.slice none 0 0)) (grown_setCell _ w.heap.size 1 (.slice none 0 0))
    exact ⟨⟨_, false, [], [], rfl, rfl, ten_mk (Ints.nil_ _ _) (Nat.le_refl _) (Ints.nil_ _ _) (Nat.le_refl _), fun hk => absurd hk (by decide)⟩, (HZ.out.setCell (Nat.le_refl _) _).setCell (Nat.le_refl _) _⟩
  | text s =>
    have a3 := as_ten_no (u := 9) (by decide) (.string s)
    have a4 := as_ptr_no (u := 9) (by decide) (.string s)
    go_enter Try.func32, Try.ntmps32
    go_upto_region 1 with fail
    generalize w.alloc (.cells #[.slice none 0 0, .slice none 0 0] 26) = wz at *
    have hd0 := cell0_of hzb
    have hd1 := cell1_of hzb
    have f0 := frozen_of_row _ _ 0 _ _ hzb
    have f1 := frozen_of_row _ _ 1 _ _ hzb
    have hx := (Below.refl wz.heap.size wz).alloc (Nat.le_refl _) (.cells #[.slice none 0 0, .slice none 0 0] 26)
    have hxb := heap_alloc_new wz (.cells #[.slice none 0 0, .slice none 0 0] 26)
    have hz2 := (hx.block w.heap.size (by rw [hzs]; omega)).trans hzb
    have HZ := Lib.hid (then_ hz hx)
    have HR := Lib.hid hr2
    clear hz hzb hzs hx hr2 hd0 hd1 f0 f1
    go_upto_region 5 with fail
    generalize wz.alloc (.cells #[.slice none 0 0, .slice none 0 0] 26) = wy at *
    have hd0 := cell0_of hz2
    have hd1 := cell1_of hz2
    have f0 := frozen_of_row _ _ 0 _ _ hz2
    have f1 := frozen_of_row _ _ 1 _ _ hz2
    have e0 := cell0_of hxb
    have e1 := cell1_of hxb
    have HZB := Lib.hid hz2
    clear hz2 hxb
    go_wp2
    refine ret_ten2 w.heap.size _ _ (.bool false) HR.out rfl rfl (block_set2 HZB.out _ _) rfl ?_
    have hgr := grown_trans (grown_setCell wy w.heap.size 0 (.slice none 0 0)) (grown_setCell _ w.heap.size 1 (.slice none 0 0))
    exact ⟨⟨_, false, [], [], rfl, rfl, ten_mk (Ints.nil_ _ _) (Nat.le_refl _) (Ints.nil_ _ _) (Nat.le_refl _), fun hk => absurd hk (by decide)⟩, (HZ.out.setCell (Nat.le_refl _) _).setCell (Nat.le_refl _) _⟩
  | @full v s d h =>
    obtain ⟨As, ns, cs, Bd, nd, cd, rfl, hsc, hdc, hS, hD⟩ := h
    have a3 := as_ten_yes (.agg #[.slice As ns cs, .slice Bd nd cd])
    have a4 := as_ptr_no (u := 26) (by decide) (.agg #[.slice As ns cs, .slice Bd nd cd])
    go_enter Try.func32, Try.ntmps32
    go_upto_region 1 with fail
    generalize w.alloc (.cells #[.slice none 0 0, .slice none 0 0] 26) = wz at *
    have hd0 := cell0_of hzb
    have hd1 := cell1_of hzb
    have f0 := frozen_of_row _ _ 0 _ _ hzb
    have f1 := frozen_of_row _ _ 1 _ _ hzb
    have hx := (Below.refl wz.heap.size wz).alloc (Nat.le_refl _) (.cells #[.slice As ns cs, .slice Bd nd cd] 26)
    have hxb := heap_alloc_new wz (.cells #[.slice As ns cs, .slice Bd nd cd] 26)
    have hz2 := (hx.block w.heap.size (by rw [hzs]; omega)).trans hzb
    have HLS := Lib.hid hS.lt
    have HLD := Lib.hid hD.lt
    have HS := Lib.hid ((hS.below hz).below hx)
    have HD := Lib.hid ((hD.below hz).below hx)
    clear hS hD
    have HZ := Lib.hid (then_ hz hx)
    have HR := Lib.hid hr2
    clear hz hzb hzs hx hr2 hd0 hd1 f0 f1
    go_upto_region 5 with fail
    generalize wz.alloc (.cells #[.slice As ns cs, .slice Bd nd cd] 26) = wy at *
    have hd0 := cell0_of hz2
    have hd1 := cell1_of hz2
    have f0 := frozen_of_row _ _ 0 _ _ hz2
    have f1 := frozen_of_row _ _ 1 _ _ hz2
    have e0 := cell0_of hxb
    have e1 := cell1_of hxb
    have HZB := Lib.hid hz2
    clear hz2 hxb
    go_wp2
    refine ret_ten2 w.heap.size _ _ (.bool true) HR.out rfl rfl (block_set2 HZB.out _ _) rfl ?_
    have hgr := grown_trans (grown_setCell wy w.heap.size 0 (.slice As ns cs)) (grown_setCell _ w.heap.size 1 (.slice Bd nd cd))
    exact ⟨⟨_, true, s, d, rfl, rfl, ten_mk (HS.out.grown hgr (fun ad he hn h' => by have := HLS.out ad he hn; injection h' with h'; omega)) hsc (HD.out.grown hgr (fun ad he hn h' => by have := HLD.out ad he hn; injection h' with h'; omega)) hdc, fun _ => rfl⟩, (HZ.out.setCell (Nat.le_refl _) _).setCell (Nat.le_refl _) _⟩
  | @ptr g x y s d hg h =>
    obtain ⟨As, ns, cs, Bd, nd, cd, he, hsc, hdc, hS, hD⟩ := h
    injection he with he; injection he with he; injection he with hx he; injection he with hy _
    subst hx; subst hy
    have a3 := as_ten_no (u := 39) (by decide) (.pointer (some ⟨g, 0, none⟩))
    have a4 := as_ptr_yes (.pointer (some ⟨g, 0, none⟩))
    go_enter Try.func32, Try.ntmps32
    go_upto_region 1 with fail
    generalize w.alloc (.cells #[.slice none 0 0, .slice none 0 0] 26) = wz at *
    have hd0 := cell0_of hzb
    have hd1 := cell1_of hzb
    have f0 := frozen_of_row _ _ 0 _ _ hzb
    have f1 := frozen_of_row _ _ 1 _ _ hzb
    have hg2 := (hz.block g (block_lt_of_cell (cell0_of hg))).trans hg
    have e0 := cell0_of hg2
    have e1 := cell1_of hg2
    have HLS := Lib.hid hS.lt
    have HLD := Lib.hid hD.lt
    have HS := Lib.hid (hS.below hz)
    have HD := Lib.hid (hD.below hz)
    have HZ := Lib.hid hz
    have HZB := Lib.hid hzb
    have HR := Lib.hid hr2
    clear hz hzb hzs hg hg2 hS hD hr2
    go_wp2
    refine ret_ten2 w.heap.size _ _ (.bool true) HR.out rfl rfl (block_set2 HZB.out _ _) rfl ?_
    have hgr := grown_trans (grown_setCell wz w.heap.size 0 (.slice As ns cs)) (grown_setCell _ w.heap.size 1 (.slice Bd nd cd))
    exact ⟨⟨_, rfl, s, d, ten_mk (HS.out.grown hgr (fun ad he hn h' => by have := HLS.out ad he hn; injection h' with h'; omega)) hsc (HD.out.grown hgr (fun ad he hn h' => by have := HLD.out ad he hn; injection h' with h'; omega)) hdc, rfl⟩, (HZ.out.setCell (Nat.le_refl _) _).setCell (Nat.le_refl _) _⟩
  | @many A n c =>
    have a3 := as_ten_no (u := 42) (by decide) (.slice A n c)
    have a4 := as_ptr_no (u := 42) (by decide) (.slice A n c)
    go_enter Try.func32, Try.ntmps32
    go_upto_region 1 with fail
    generalize w.alloc (.cells #[.slice none 0 0, .slice none 0 0] 26) = wz at *
    have hd0 := cell0_of hzb
    have hd1 := cell1_of hzb
    have f0 := frozen_of_row _ _ 0 _ _ hzb
    have f1 := frozen_of_row _ _ 1 _ _ hzb
    have hx := (Below.refl wz.heap.size wz).alloc (Nat.le_refl _) (.cells #[.slice none 0 0, .slice none 0 0] 26)
    have hxb := heap_alloc_new wz (.cells #[.slice none 0 0, .slice none 0 0] 26)
    have hz2 := (hx.block w.heap.size (by rw [hzs]; omega)).trans hzb
    have HZ := Lib.hid (then_ hz hx)
    have HR := Lib.hid hr2
    clear hz hzb hzs hx hr2 hd0 hd1 f0 f1
    go_upto_region 5 with fail
    generalize wz.alloc (.cells #[.slice none 0 0, .slice none 0 0] 26) = wy at *
    have hd0 := cell0_of hz2
    have hd1 := cell1_of hz2
    have f0 := frozen_of_row _ _ 0 _ _ hz2
    have f1 := frozen_of_row _ _ 1 _ _ hz2
    have e0 := cell0_of hxb
    have e1 := cell1_of hxb
    have HZB := Lib.hid hz2
    clear hz2 hxb
    go_wp2
    refine ret_ten2 w.heap.size _ _ (.bool false) HR.out rfl rfl (block_set2 HZB.out _ _) rfl ?_
    have hgr := grown_trans (grown_setCell wy w.heap.size 0 (.slice none 0 0)) (grown_setCell _ w.heap.size 1 (.slice none 0 0))
    exact ⟨⟨_, false, [], [], rfl, rfl, ten_mk (Ints.nil_ _ _) (Nat.le_refl _) (Ints.nil_ _ _) (Nat.le_refl _), fun hk => absurd hk (by decide)⟩, (HZ.out.setCell (Nat.le_refl _) _).setCell (Nat.le_refl _) _⟩
  | nilPtr =>
    have a3 := as_ten_no (u := 39) (by decide) (.pointer none)
    have a4 := as_ptr_yes (.pointer none)
    go_enter Try.func32, Try.ntmps32
    go_upto_region 1 with fail
    generalize w.alloc (.cells #[.slice none 0 0, .slice none 0 0] 26) = wz at *
    have hd0 := cell0_of hzb
    have hd1 := cell1_of hzb
    have f0 := frozen_of_row _ _ 0 _ _ hzb
    have f1 := frozen_of_row _ _ 1 _ _ hzb
    have hx := (Below.refl wz.heap.size wz).alloc (Nat.le_refl _) (.cells #[.slice none 0 0, .slice none 0 0] 26)
    have hxb := heap_alloc_new wz (.cells #[.slice none 0 0, .slice none 0 0] 26)
    have hz2 := (hx.block w.heap.size (by rw [hzs]; omega)).trans hzb
    have HZ := Lib.hid (then_ hz hx)
    have HR := Lib.hid hr2
    clear hz hzb hzs hx hr2 hd0 hd1 f0 f1
    go_upto_region 5 with fail
    generalize wz.alloc (.cells #[.slice none 0 0, .slice none 0 0] 26) = wy at *
    have hd0 := cell0_of hz2
    have hd1 := cell1_of hz2
    have f0 := frozen_of_row _ _ 0 _ _ hz2
    have f1 := frozen_of_row _ _ 1 _ _ hz2
    have e0 := cell0_of hxb
    have e1 := cell1_of hxb
    have HZB := Lib.hid hz2
    clear hz2 hxb
    go_wp2
    refine ret_ten2 w.heap.size _ _ (.bool false) HR.out rfl rfl (block_set2 HZB.out _ _) rfl ?_
    have hgr := grown_trans (grown_setCell wy w.heap.size 0 (.slice none 0 0)) (grown_setCell _ w.heap.size 1 (.slice none 0 0))
    exact ⟨⟨_, false, [], [], rfl, rfl, ten_mk (Ints.nil_ _ _) (Nat.le_refl _) (Ints.nil_ _ _) (Nat.le_refl _), fun hk => absurd hk (by decide)⟩, (HZ.out.setCell (Nat.le_refl _) _).setCell (Nat.le_refl _) _⟩
  | nil =>
    have a3 := as_ten_nil
    have a4 := as_ptr_nil
    go_enter Try.func32, Try.ntmps32
    go_upto_region 1 with fail
    generalize w.alloc (.cells #[.slice none 0 0, .slice none 0 0] 26) = wz at *
    have hd0 := cell0_of hzb
    have hd1 := cell1_of hzb
    have f0 := frozen_of_row _ _ 0 _ _ hzb
    have f1 := frozen_of_row _ _ 1 _ _ hzb
    have hx := (Below.refl wz.heap.size wz).alloc (Nat.le_refl _) (.cells #[.slice none 0 0, .slice none 0 0] 26)
    have hxb := heap_alloc_new wz (.cells #[.slice none 0 0, .slice none 0 0] 26)
    have hz2 := (hx.block w.heap.size (by rw [hzs]; omega)).trans hzb
    have HZ := Lib.hid (then_ hz hx)
    have HR := Lib.hid hr2
    clear hz hzb hzs hx hr2 hd0 hd1 f0 f1
    go_upto_region 5 with fail
    generalize wz.alloc (.cells #[.slice none 0 0, .slice none 0 0] 26) = wy at *
    have hd0 := cell0_of hz2
    have hd1 := cell1_of hz2
    have f0 := frozen_of_row _ _ 0 _ _ hz2
    have f1 := frozen_of_row _ _ 1 _ _ hz2
    have e0 := cell0_of hxb
    have e1 := cell1_of hxb
    have HZB := Lib.hid hz2
    clear hz2 hxb
    go_wp2
    refine ret_ten2 w.heap.size _ _ (.bool false) HR.out rfl rfl (block_set2 HZB.out _ _) rfl ?_
    have hgr := grown_trans (grown_setCell wy w.heap.size 0 (.slice none 0 0)) (grown_setCell _ w.heap.size 1 (.slice none 0 0))
    exact ⟨⟨_, false, [], [], rfl, rfl, ten_mk (Ints.nil_ _ _) (Nat.le_refl _) (Ints.nil_ _ _) (Nat.le_refl _), fun hk => absurd hk (by decide)⟩, (HZ.out.setCell (Nat.le_refl _) _).setCell (Nat.le_refl _) _⟩
  | @other t v h =>
    obtain ⟨h1, h2, h3, h4, h5, h6, h7⟩ := h
    have a3 := as_ten_no (u := t) h4 (v)
    have a4 := as_ptr_no (u := t) h5 (v)
    clear h1 h2 h3 h4 h5 h6 h7
    go_enter Try.func32, Try.ntmps32
    go_upto_region 1 with fail
    generalize w.alloc (.cells #[.slice none 0 0, .slice none 0 0] 26) = wz at *
    have hd0 := cell0_of hzb
    have hd1 := cell1_of hzb
    have f0 := frozen_of_row _ _ 0 _ _ hzb
    have f1 := frozen_of_row _ _ 1 _ _ hzb
    have hx := (Below.refl wz.heap.size wz).alloc (Nat.le_refl _) (.cells #[.slice none 0 0, .slice none 0 0] 26)
    have hxb := heap_alloc_new wz (.cells #[.slice none 0 0, .slice none 0 0] 26)
    have hz2 := (hx.block w.heap.size (by rw [hzs]; omega)).trans hzb
    have HZ := Lib.hid (then_ hz hx)
    have HR := Lib.hid hr2
    clear hz hzb hzs hx hr2 hd0 hd1 f0 f1
    go_upto_region 5 with fail
    generalize wz.alloc (.cells #[.slice none 0 0, .slice none 0 0] 26) = wy at *
    have hd0 := cell0_of hz2
    have hd1 := cell1_of hz2
    have f0 := frozen_of_row _ _ 0 _ _ hz2
    have f1 := frozen_of_row _ _ 1 _ _ hz2
    have e0 := cell0_of hxb
    have e1 := cell1_of hxb
    have HZB := Lib.hid hz2
    clear hz2 hxb
    go_wp2
    refine ret_ten2 w.heap.size _ _ (.bool false) HR.out rfl rfl (block_set2 HZB.out _ _) rfl ?_
    have hgr := grown_trans (grown_setCell wy w.heap.size 0 (.slice none 0 0)) (grown_setCell _ w.heap.size 1 (.slice none 0 0))
    exact ⟨⟨_, false, [], [], rfl, rfl, ten_mk (Ints.nil_ _ _) (Nat.le_refl _) (Ints.nil_ _ _) (Nat.le_refl _), fun hk => absurd hk (by decide)⟩, (HZ.out.setCell (Nat.le_refl _) _).setCell (Nat.le_refl _) _⟩
set_option maxHeartbeats 3200000 in
theorem dkind_any {w : World} {v : Value} {k : Int} {o : Option (List Int × List Int)} (h : Datum w v k o) :
    Calls Try.prog 23 #[v] w fun e w' => e = .returned (.int .i64 k) ∧ Below w.heap.size w w' := by
  have H1 := Lib.hid (dWhole_any h)
  have H2 := Lib.hid (dFull_any h)
  cases h with
  | whole64 n h =>
    have a2 := as_row_no (u := 2) (by decide) (.int .i64 n)
    have a5 := as_text_no (u := 2) (by decide) (.int .i64 n)
    have a6 := as_many_no (u := 2) (by decide) (.int .i64 n)
    go_enter Try.func23, Try.ntmps23
    go_wp2_with fail
    refine H1.out.mono ?_; rintro e w1 ⟨⟨n1, b1, rfl, hb1, _⟩, rfl⟩
    obtain rfl : b1 = true := hb1
    go_wp2_with fail
    go_ret
    exact ⟨rfl, Below.refl _ _⟩
  | whole n h =>
    have a2 := as_row_no (u := 3) (by decide) (.int .i64 n)
    have a5 := as_text_no (u := 3) (by decide) (.int .i64 n)
    have a6 := as_many_no (u := 3) (by decide) (.int .i64 n)
    go_enter Try.func23, Try.ntmps23
    go_wp2_with fail
    refine H1.out.mono ?_; rintro e w1 ⟨⟨n1, b1, rfl, hb1, _⟩, rfl⟩
    obtain rfl : b1 = true := hb1
    go_wp2_with fail
    go_ret
    exact ⟨rfl, Below.refl _ _⟩
  | @row A n c l h hn hc =>
    have a2 := as_row_yes (.slice A n c)
    have a5 := as_text_no (u := 23) (by decide) (.slice A n c)
    have a6 := as_many_no (u := 23) (by decide) (.slice A n c)
    go_enter Try.func23, Try.ntmps23
    go_wp2_with fail
    refine H1.out.mono ?_; rintro e w1 ⟨⟨n1, b1, rfl, hb1, _⟩, rfl⟩
    obtain rfl : b1 = false := hb1
    go_wp2_with fail
    go_ret
    exact ⟨rfl, Below.refl _ _⟩
  | text s =>
    have a2 := as_row_no (u := 9) (by decide) (.string s)
    have a5 := as_text_yes (.string s)
    have a6 := as_many_no (u := 9) (by decide) (.string s)
    go_enter Try.func23, Try.ntmps23
    go_wp2_with fail
    refine H1.out.mono ?_; rintro e w1 ⟨⟨n1, b1, rfl, hb1, _⟩, rfl⟩
    obtain rfl : b1 = false := hb1
    go_wp2_with fail
    refine H2.out.mono ?_; rintro e w1 ⟨⟨u, b2, s2, d2, rfl, hb2, hT, _⟩, hw⟩
    obtain rfl : b2 = false := hb2
    obtain ⟨An, nn, cn, Bn, mn, en, rfl, _, _, _, _⟩ := hT
    have hB := then_ hw ((Below.refl w1.heap.size w1).alloc (Nat.le_refl _) (.cells #[.slice An nn cn, .slice Bn mn en] 26))
    have HB := Lib.hid hB
    clear hw hB
    go_wp2
    go_ret
    exact ⟨rfl, HB.out⟩
  | @full v s d h =>
    obtain ⟨As, ns, cs, Bd, nd, cd, rfl, hsc, hdc, hS, hD⟩ := h
    have a2 := as_row_no (u := 26) (by decide) (.agg #[.slice As ns cs, .slice Bd nd cd])
    have a5 := as_text_no (u := 26) (by decide) (.agg #[.slice As ns cs, .slice Bd nd cd])
    have a6 := as_many_no (u := 26) (by decide) (.agg #[.slice As ns cs, .slice Bd nd cd])
    go_enter Try.func23, Try.ntmps23
    go_wp2_with fail
    refine H1.out.mono ?_; rintro e w1 ⟨⟨n1, b1, rfl, hb1, _⟩, rfl⟩
    obtain rfl : b1 = false := hb1
    go_wp2_with fail
    refine H2.out.mono ?_; rintro e w1 ⟨⟨u, b2, s2, d2, rfl, hb2, hT, _⟩, hw⟩
    obtain rfl : b2 = true := hb2
    obtain ⟨An, nn, cn, Bn, mn, en, rfl, _, _, _, _⟩ := hT
    have hB := then_ hw ((Below.refl w1.heap.size w1).alloc (Nat.le_refl _) (.cells #[.slice An nn cn, .slice Bn mn en] 26))
    have HB := Lib.hid hB
    clear hw hB
    go_wp2
    go_ret
    exact ⟨rfl, HB.out⟩
  | @ptr g x y s d hg h =>
    have a2 := as_row_no (u := 39) (by decide) (.pointer (some ⟨g, 0, none⟩))
    have a5 := as_text_no (u := 39) (by decide) (.pointer (some ⟨g, 0, none⟩))
    have a6 := as_many_no (u := 39) (by decide) (.pointer (some ⟨g, 0, none⟩))
    go_enter Try.func23, Try.ntmps23
    go_wp2_with fail
    refine H1.out.mono ?_; rintro e w1 ⟨⟨n1, b1, rfl, hb1, _⟩, rfl⟩
    obtain rfl : b1 = false := hb1
    go_wp2_with fail
    refine H2.out.mono ?_; rintro e w1 ⟨⟨u, b2, s2, d2, rfl, hb2, hT, _⟩, hw⟩
    obtain rfl : b2 = true := hb2
    obtain ⟨An, nn, cn, Bn, mn, en, rfl, _, _, _, _⟩ := hT
    have hB := then_ hw ((Below.refl w1.heap.size w1).alloc (Nat.le_refl _) (.cells #[.slice An nn cn, .slice Bn mn en] 26))
    have HB := Lib.hid hB
    clear hw hB
    go_wp2
    go_ret
    exact ⟨rfl, HB.out⟩
  | @many A n c =>
    have a2 := as_row_no (u := 42) (by decide) (.slice A n c)
    have a5 := as_text_no (u := 42) (by decide) (.slice A n c)
    have a6 := as_many_yes (.slice A n c)
    go_enter Try.func23, Try.ntmps23
    go_wp2_with fail
    refine H1.out.mono ?_; rintro e w1 ⟨⟨n1, b1, rfl, hb1, _⟩, rfl⟩
    obtain rfl : b1 = false := hb1
    go_wp2_with fail
    refine H2.out.mono ?_; rintro e w1 ⟨⟨u, b2, s2, d2, rfl, hb2, hT, _⟩, hw⟩
    obtain rfl : b2 = false := hb2
    obtain ⟨An, nn, cn, Bn, mn, en, rfl, _, _, _, _⟩ := hT
    have hB := then_ hw ((Below.refl w1.heap.size w1).alloc (Nat.le_refl _) (.cells #[.slice An nn cn, .slice Bn mn en] 26))
    have HB := Lib.hid hB
    clear hw hB
    go_wp2
    go_ret
    exact ⟨rfl, HB.out⟩
  | nilPtr =>
    have a2 := as_row_no (u := 39) (by decide) (.pointer none)
    have a5 := as_text_no (u := 39) (by decide) (.pointer none)
    have a6 := as_many_no (u := 39) (by decide) (.pointer none)
    go_enter Try.func23, Try.ntmps23
    go_wp2_with fail
    refine H1.out.mono ?_; rintro e w1 ⟨⟨n1, b1, rfl, hb1, _⟩, rfl⟩
    obtain rfl : b1 = false := hb1
    go_wp2_with fail
    refine H2.out.mono ?_; rintro e w1 ⟨⟨u, b2, s2, d2, rfl, hb2, hT, _⟩, hw⟩
    obtain rfl : b2 = false := hb2
    obtain ⟨An, nn, cn, Bn, mn, en, rfl, _, _, _, _⟩ := hT
    have hB := then_ hw ((Below.refl w1.heap.size w1).alloc (Nat.le_refl _) (.cells #[.slice An nn cn, .slice Bn mn en] 26))
    have HB := Lib.hid hB
    clear hw hB
    go_wp2
    go_ret
    exact ⟨rfl, HB.out⟩
  | nil =>
    have a2 := as_row_nil
    have a5 := as_text_nil
    have a6 := as_many_nil
    go_enter Try.func23, Try.ntmps23
    go_wp2_with fail
    refine H1.out.mono ?_; rintro e w1 ⟨⟨n1, b1, rfl, hb1, _⟩, rfl⟩
    obtain rfl : b1 = false := hb1
    go_wp2_with fail
    refine H2.out.mono ?_; rintro e w1 ⟨⟨u, b2, s2, d2, rfl, hb2, hT, _⟩, hw⟩
    obtain rfl : b2 = false := hb2
    obtain ⟨An, nn, cn, Bn, mn, en, rfl, _, _, _, _⟩ := hT
    have hB := then_ hw ((Below.refl w1.heap.size w1).alloc (Nat.le_refl _) (.cells #[.slice An nn cn, .slice Bn mn en] 26))
    have HB := Lib.hid hB
    clear hw hB
    go_wp2
    go_ret
    exact ⟨rfl, HB.out⟩
  | @other t v h =>
    obtain ⟨h1, h2, h3, h4, h5, h6, h7⟩ := h
    have a2 := as_row_no (u := t) h3 (v)
    have a5 := as_text_no (u := t) h6 (v)
    have a6 := as_many_no (u := t) h7 (v)
    clear h1 h2 h3 h4 h5 h6 h7
    go_enter Try.func23, Try.ntmps23
    go_wp2_with fail
    refine H1.out.mono ?_; rintro e w1 ⟨⟨n1, b1, rfl, hb1, _⟩, rfl⟩
    obtain rfl : b1 = false := hb1
    go_wp2_with fail
    refine H2.out.mono ?_; rintro e w1 ⟨⟨u, b2, s2, d2, rfl, hb2, hT, _⟩, hw⟩
    obtain rfl : b2 = false := hb2
    obtain ⟨An, nn, cn, Bn, mn, en, rfl, _, _, _, _⟩ := hT
    have hB := then_ hw ((Below.refl w1.heap.size w1).alloc (Nat.le_refl _) (.cells #[.slice An nn cn, .slice Bn mn en] 26))
    have HB := Lib.hid hB
    clear hw hB
    go_wp2
    go_ret
    exact ⟨rfl, HB.out⟩
theorem dKind_any {w : World} {v : Value} {k : Int} {o : Option (List Int × List Int)} (h : Datum w v k o) :
    Calls Try.prog 16 #[v] w fun e w' => e = .returned (.int .i64 k) ∧ Below w.heap.size w w' := by
  go_enter Try.func16, Try.ntmps16
  go_wp2_with fail
  refine (dkind_any h).mono ?_; rintro e w1 ⟨rfl, hb⟩
  have HB := Lib.hid hb
  clear hb
  go_wp2
  go_ret
  exact ⟨rfl, HB.out⟩
end Go.Proofs.Ytkcpakmfipiglaa
