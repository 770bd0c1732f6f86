/- The walk of NamesUnique. -/
import Derived.Test.YtpceebpihojdcaaL9Known
import Derived.Test.YtpceebpihojdcaaUt
import Derived.Test.YtpceebpihojdcaaKitReg
import Derived.Deep.DeepCutAuto
namespace Go.Proofs.Ytpceebpihojdcaa
open Go.RowKit

theorem pick9 {a : Int} (d m : Int) (hm : 0 < m) (hm2 : m ≤ 100000) (hd : 0 ≤ d) (hd2 : d ≤ 100000) :
    d ≤ wrap32 (d + (wrap32 (a.tmod m + m)).tmod m) ∧ wrap32 (d + (wrap32 (a.tmod m + m)).tmod m) < d + m := by
  have h1 : -m < a.tmod m ∧ a.tmod m < m := by
    by_cases h : 0 ≤ a
    · rw [Int.tmod_eq_emod_of_nonneg h]
      have := Int.emod_nonneg a (b := m) (by omega); have := Int.emod_lt_of_pos a hm
      omega
    · have e : a = -(-a) := by omega
      rw [e, Int.neg_tmod, Int.tmod_eq_emod_of_nonneg (by omega : 0 ≤ -a)]
      have := Int.emod_nonneg (-a) (b := m) (by omega); have := Int.emod_lt_of_pos (-a) hm
      omega
  rw [show wrap32 (a.tmod m + m) = a.tmod m + m from by unfold wrap32; omega]
  obtain ⟨q, hq⟩ : ∃ q, a.tmod m + m = q := ⟨_, rfl⟩
  rw [hq]
  have h2 : 0 ≤ q := by omega
  rw [Int.tmod_eq_emod_of_nonneg h2]
  have := Int.emod_nonneg q (b := m) (by omega); have := Int.emod_lt_of_pos q hm
  unfold wrap32
  omega
theorem ownR_lit (w : World) {base n : Nat} (e : TypeId) (cs : Array Value) (xs : List Int) (hb : base ≤ w.heap.size) (hc : cs.toList = xs.map (Value.int .i32)) (hn : xs.length = n) (hn2 : n ≤ 1000) (hf : ∀ x ∈ xs, FitsR x) :
    OwnR (w.alloc (.cells cs e)) base e w.heap.size n n xs := by
  have hs : cs.size = n * 1 := by rw [← Array.length_toList, hc, List.length_map]; omega
  refine ⟨?_, hf, by omega⟩
  have := World.ownsRow_lit (e := e) w cs n hb (by unfold maxLen; omega) hs
  rwa [hc] at this
/-- A list of runes made a text. -/
theorem OwnR.text {w : World} {base g n c src e dst : Nat} {t : TypeId} {xs : List Int} (h : OwnR w base t g n c xs) (hs : Try.prog.underlying src = some (.slice e)) (he : Try.prog.underlying e = some (.int .i32)) (hd : Try.prog.underlying dst = some .string) (k : Nat) (hk : k ≤ n) (c' : Nat) :
    (convert src dst (.slice (some ⟨g, 0, none⟩) k c')).run Try.prog w = .ok (.string (runesBytes (xs.take k))) w := by
  refine run_convert_runes w src dst e _ k c' xs (by rw [h.len]; exact hk) hs he hd fun j hj => ?_
  rw [Addr.add_lit, Nat.zero_add]
  refine h.cell ?_
  rw [List.getD_eq_getElem?_getD, List.getElem?_eq_getElem hj]; rfl
def bad9 (x : Int) : Prop := x = 46 ∨ x = 45 ∨ x = 40 ∨ x = 41
theorem find_k9 {u y z : Int} (h1 : u < 127) (h2 : 256 ≤ y) (h3 : y < 4352) (h4 : 19968 ≤ z) {k : Nat} {r : Int} (hr : [u, y, z][k]? = some r) : findF [u, y, z] r = k := by
  match k, hr with
  | 0, hr => simp at hr; subst hr; simp [findF, findI]
  | 1, hr => simp at hr; subst hr; rw [findF, findI, if_neg (by omega), findI, if_pos rfl]
  | 2, hr => simp at hr; subst hr; rw [findF, findI, if_neg (by omega), findI, if_neg (by omega), findI, if_pos rfl]
  | k + 3, hr => simp at hr
theorem right_four9 (u y z r : Int) : rightB [u, y, z, r] 4 = false := rightB_no fun h => by have := h.2.1; omega
theorem right_all9 {u y z : Int} (h0 : 33 ≤ u) (hu : ¬ bad9 u) (h1 : u < 127) (h2 : 256 ≤ y) (h3 : y < 4352) (h4 : 19968 ≤ z) (h5 : z < 24064) : rightB [u, y, z] 3 = true := by
  refine rightB_yes ⟨by omega, by omega, rfl, fun i x hx => ⟨?_, find_k9 h1 h2 h3 h4 hx⟩⟩
  unfold bad9 at hu
  unfold badR
  match i, hx with
  | 0, hx => simp at hx; subst hx; omega
  | 1, hx => simp at hx; subst hx; omega
  | 2, hx => simp at hx; subst hx; omega
  | i + 3, hx => simp at hx
theorem right_k9 {u y z : Int} (h0 : 33 ≤ u) (hu : ¬ bad9 u) (h1 : u < 127) (h2 : 256 ≤ y) (h3 : y < 4352) (h4 : 19968 ≤ z) (h5 : z < 24064) {k : Nat} {r : Int} (hr : [u, y, z][k]? = some r) : rightB [u, y, r] 3 = decide (k = 2) := by
  match k, hr with
  | 0, hr =>
    simp at hr; subst hr
    refine rightB_no fun h => ?_
    have := (h.2.2.2 2 _ rfl).2
    rw [findF, findI, if_pos rfl] at this
    omega
  | 1, hr =>
    simp at hr; subst hr
    refine rightB_no fun h => ?_
    have := (h.2.2.2 2 _ rfl).2
    rw [findF, findI, if_neg (by omega), findI, if_pos rfl] at this
    omega
  | 2, hr => simp at hr; subst hr; exact right_all9 h0 hu h1 h2 h3 h4 h5
  | k + 3, hr => simp at hr
theorem text_add9 (l : List Int) (r : Int) : runesBytes l ++ Utf8.encode r = runesBytes (l ++ [r]) := by
  rw [bytes_append, bytes_cons r [], show runesBytes [] = ByteArray.empty from rfl, ByteArray.append_empty]
theorem keep9 {w0 w : World} {g k : Nat} {u y z r : Int} (h : OwnR w g 21 g 3 3 [u, y, z]) (hb : Below g w0 w) (hr : [u, y, z][k]? = some r) :
    w.cell? ⟨g, k, none⟩ = some (.int .i32 r) ∧ (convert 33 9 (.slice (some ⟨g, 0, none⟩) 2 3)).run Try.prog w = .ok (.string (runesBytes [u, y])) w ∧ Hid (OwnR w g 21 g 3 3 [u, y, z]) ∧ Hid (Below g w0 w) :=
  ⟨h.cell hr, h.text (e := 21) (by kernel_rfl) (by kernel_rfl) (by kernel_rfl) 2 (by omega) 3, Lib.hid h, Lib.hid hb⟩
theorem note9 {u y z : Int} (h0 : 33 ≤ u) (hu : ¬ bad9 u) (h1 : u < 127) (h2 : 256 ≤ y) (h3 : y < 4352) (h4 : 19968 ≤ z) : noteR [u, y, z] [z, 46, u, y] 4 = ([2, -1, 0, 1], true, 0) := by
  unfold bad9 at hu
  have fu := find_k9 h1 h2 h3 h4 (k := 0) (r := u) rfl
  have fy := find_k9 h1 h2 h3 h4 (k := 1) (r := y) rfl
  have fz := find_k9 h1 h2 h3 h4 (k := 2) (r := z) rfl
  have s1 : noteStep [u, y, z] [] z = some [2] := by rw [noteStep, if_neg (by omega), if_neg (by omega), fz, if_neg (by decide), if_neg (by simp)]; rfl
  have s2 : noteStep [u, y, z] [2] 46 = some [2, -1] := by rw [noteStep, if_neg (by decide), if_pos rfl]; rfl
  have s3 : noteStep [u, y, z] [2, -1] u = some [2, -1, 0] := by rw [noteStep, if_neg (by omega), if_neg (by omega), fu, if_neg (by decide), if_neg (by simp)]; rfl
  have s4 : noteStep [u, y, z] [2, -1, 0] y = some [2, -1, 0, 1] := by rw [noteStep, if_neg (by omega), if_neg (by omega), fy, if_neg (by decide), if_neg (by simp)]; rfl
  refine noteR_ok (by simp) ?_ (by simp) (by simp)
  simp only [noteL, s1, s2, s3, s4, Option.bind_some]
theorem keep12 {w0 w : World} {g : Nat} {u y z : Int} (h : OwnR w g 21 g 3 3 [u, y, z]) (hb : Below g w0 w) :
    w.cell? ⟨g, 0, none⟩ = some (.int .i32 u) ∧ w.cell? ⟨g, 1, none⟩ = some (.int .i32 y) ∧ w.cell? ⟨g, 2, none⟩ = some (.int .i32 z) ∧ Hid (OwnR w g 21 g 3 3 [u, y, z]) ∧ Hid (Below g w0 w) :=
  ⟨h.cell rfl, h.cell rfl, h.cell rfl, Lib.hid h, Lib.hid hb⟩
set_option maxRecDepth 100000 in
set_option maxHeartbeats 6400000 in
theorem unique9_walk (w : World) (a b c : Int) :
    Calls Try.prog 6 #[.int .i32 a, .int .i32 b, .int .i32 c] w fun e w' => e = .returned (.bool true) ∧ Below w.heap.size w w' := by
  have px := pick9 (a := a) 33 94 (by omega) (by omega) (by omega) (by omega)
  have py := pick9 (a := b) 256 4096 (by omega) (by omega) (by omega) (by omega)
  have pz := pick9 (a := c) 19968 4096 (by omega) (by omega) (by omega) (by omega)
  go_enter Try.func6, Try.ntmps6
  go_upto_region 2 with fail
  generalize wrap32 (33 + (wrap32 (a.tmod 94 + 94)).tmod 94) = x at *
  generalize wrap32 (256 + (wrap32 (b.tmod 4096 + 4096)).tmod 4096) = y at *
  generalize wrap32 (19968 + (wrap32 (c.tmod 4096 + 4096)).tmod 4096) = z at *
  obtain ⟨px1, px2⟩ := px
  obtain ⟨py1, py2⟩ := py
  obtain ⟨pz1, pz2⟩ := pz
  have hO := ownR_lit w (base := w.heap.size) (n := 3) 21 #[.int .i32 x, .int .i32 y, .int .i32 z] [x, y, z] (Nat.le_refl _) rfl rfl (by omega) (by intro u hu; simp at hu; unfold FitsR; omega)
  have hB := (Below.refl w.heap.size w).alloc (Nat.le_refl _) (.cells #[.int .i32 x, .int .i32 y, .int .i32 z] 21)
  generalize w.alloc (.cells #[.int .i32 x, .int .i32 y, .int .i32 z] 21) = W at *
  obtain ⟨g, hg⟩ : ∃ g, w.heap.size = g := ⟨_, rfl⟩
  rw [hg] at hO hB ⊢
  have HG := Lib.hid hg
  have HO := Lib.hid hO
  have HB := Lib.hid hB
  clear hg hO hB
  have c0 : W.cell? ⟨g, 0, none⟩ = some (.int .i32 x) := HO.out.cell rfl
  go_cut [51] (fun q wx => ∃ bb : Bool, q = .bool bb ∧ (bb = false → ¬ bad9 x) ∧ W = wx)
  case first =>
    by_cases h1 : x = 46
    · have d1 : (x == 46) = true := by simpa using h1
      go_wp2_with fail
      go_meet
      exact ⟨true, rfl, by simp, rfl⟩
    · have d1 : (x == 46) = false := by simpa using h1
      by_cases h2 : x = 45
      · have d2 : (x == 45) = true := by simpa using h2
        have h1 := Lib.hid h1
        go_wp2_with fail
        go_meet
        exact ⟨true, rfl, by simp, rfl⟩
      · have d2 : (x == 45) = false := by simpa using h2
        by_cases h3 : x = 40
        · have d3 : (x == 40) = true := by simpa using h3
          go_wp2_with fail
          go_meet
          exact ⟨true, rfl, by simp, rfl⟩
        · have d3 : (x == 40) = false := by simpa using h3
          by_cases h4 : x = 41
          · have d4 : (x == 41) = true := by simpa using h4
            go_wp2_with fail
            go_meet
            exact ⟨true, rfl, by simp, rfl⟩
          · have d4 : (x == 41) = false := by simpa using h4
            go_wp2_with fail
            go_meet
            exact ⟨false, rfl, fun _ hbad => by unfold bad9 at hbad; omega, rfl⟩
  case rest =>
    obtain ⟨bb, rfl, hbb, rfl⟩ := hcut
    have HBB := Lib.hid hbb
    clear hbb
    go_upto_if 51 with fail
    go_cut [] (fun wx => ∃ u, 33 ≤ u ∧ u < 127 ∧ ¬ bad9 u ∧ OwnR wx g 21 g 3 3 [u, y, z] ∧ Below g w wx)
    case first =>
      cases bb
      case false => go_wp2_with fail; go_meet; exact ⟨x, px1, by omega, HBB.out (by simp), HO.out, HB.out⟩
      case true =>
        have hf := HO.out.frozen 0
        go_wp2_with fail
        go_meet
        exact ⟨120, by omega, by omega, by unfold bad9; omega, HO.out.store 0 (u := 120) ⟨by omega, by omega⟩, HB.out.setCell (Nat.le_refl _) _⟩
    case rest =>
      obtain ⟨u, hu1, hu2, hu3, hO, hB⟩ := hcut
      obtain ⟨w1, rfl⟩ : ∃ w1 : World, w1 = wc := ⟨_, rfl⟩
      clear HO HB c0 HBB
      have hcv := hO.text (src := 33) (e := 21) (dst := 9) (by kernel_rfl) (by kernel_rfl) (by kernel_rfl) 3 (by omega) 3
      have HO := Lib.hid hO
      have HB := Lib.hid hB
      clear hO hB
      have HT := Lib.hid (runes_bytes [u, y, z] (by intro q hq; simp at hq; omega))
      have HTS := Lib.hid (show (runesBytes [u, y, z]).size ≤ 17592186044000 from by have := runesBytes_size_le [u, y, z]; simp at this; omega)
      rw [show [u, y, z].take 3 = [u, y, z] from rfl] at hcv
      go_wp2_with fail
      clear hcv
      go_loopw [58] (fun kv wr => ∃ k : Nat, kv = .int .i64 k ∧ k ≤ 3 ∧ OwnR wr g 21 g 3 3 [u, y, z] ∧ Below g w wr) (fun kv _ => 3 - (intOf kv).toNat)
      case atStart => exact ⟨0, rfl, by omega, HO.out, HB.out⟩
      case round =>
        clear HO HB
        obtain ⟨k, rfl, hk, hO, hB⟩ := hrel
        obtain ⟨w2, rfl⟩ : ∃ w2 : World, w2 = wr := ⟨_, rfl⟩
        by_cases hlt : k < 3
        · have hd1 : decide ((k : Int) < 3) = true := by simp; omega
          obtain ⟨r, hr⟩ : ∃ r, [u, y, z][k]? = some r := ⟨_, List.getElem?_eq_getElem (show k < [u, y, z].length from hlt)⟩
          have hr0 : 0 ≤ r ∧ r < 55296 := by have := List.mem_of_getElem? hr; simp at this; omega
          have CF := fun w : World => nFind_any (w := w) (s := runesBytes [u, y, z]) r HTS.out
          have CA := fun w : World => nRight_any (w := w) (s := runesBytes [u, y, z] ++ Utf8.encode r) 4 (by have := runesBytes_size_le [u, y, z]; have := encode_size_le r; simp at *; omega)
          have CB := fun w : World => nRight_any (w := w) (s := runesBytes [u, y] ++ Utf8.encode r) 3 (by have := runesBytes_size_le [u, y]; have := encode_size_le r; simp at *; omega)
          simp only [HT.out, find_k9 hu2 py1 (by omega) pz1 hr] at CF
          have e4 : runesOf (runesBytes [u, y, z] ++ Utf8.encode r) = [u, y, z, r] := by rw [text_add9]; exact runes_bytes _ (by intro q hq; simp at hq; omega)
          have e3 : runesOf (runesBytes [u, y] ++ Utf8.encode r) = [u, y, r] := by rw [text_add9]; exact runes_bytes _ (by intro q hq; simp at hq; omega)
          simp only [e4, right_four9] at CA
          simp only [e3, right_k9 hu1 hu3 hu2 py1 (by omega) pz1 (by omega) hr] at CB
          clear e4 e3
          obtain ⟨k0, k1, k2, k3⟩ := keep9 hO hB hr
          have HR := Lib.hid hr
          have klt : (k : Int) < 3 := by omega
          have kn : ((k : Int) != (k : Int)) = false := by simp
          have kq : (decide (k = 2) != ((k : Int) == 2)) = false := by by_cases h : k = 2 <;> simp [h]; omega
          have sz1 : ¬ 9223372036854775807 < (runesBytes [u, y, z]).size + (Utf8.encode r).size := by have := HTS.out; have := encode_size_le r; omega
          have sz2 : ¬ 9223372036854775807 < (runesBytes [u, y]).size + (Utf8.encode r).size := by have := runesBytes_size_le [u, y]; have := encode_size_le r; simp at *; omega
          clear hO hB hr
          go_upto_region 8 with fail
          go_cut [89] (fun q wx => q = .bool false ∧ OwnR wx g 21 g 3 3 [u, y, z] ∧ Below g w wx)
          case first =>
            refine wp_region_held_drew (S := (fun w' => w'.cell? ⟨g, k, none⟩ = some (.int .i32 r) ∧ (convert 33 9 (.slice (some ⟨g, 0, none⟩) 2 3)).run Try.prog w' = .ok (.string (runesBytes [u, y])) w' ∧ Hid (OwnR w' g 21 g 3 3 [u, y, z]) ∧ Hid (Below g w w'))) (by kernel_rfl) ?_ (fun hHeld => ?_)
            · exact keep9 (w := w2.drew) k2.out k3.out.drew HR.out
            first | (refine takeU (i := 0) (oi := { dst := some 63, op := Op.move (Operand.tmp 8), type := 9, pos := "law.go:96", after := #[], guard := none }) rfl (by kernel_rfl) (by kernel_rfl) (by kernel_rfl) (fun _ _ _ h => h) ?_ hHeld ?_; (focus rfl)) | (refine takeW (i := 0) (oi := { dst := some 63, op := Op.move (Operand.tmp 8), type := 9, pos := "law.go:96", after := #[], guard := none }) ?_ rfl (by kernel_rfl) (by kernel_rfl) (by kernel_rfl) (fun _ _ _ h => h) ?_ ?_ hHeld ?_; rotate_left; (focus rfl); (focus (intro wq hSq; obtain ⟨q0, q1, q2, q3⟩ := hSq; (first | (go_simp; done) | (go_simp; with_reducible rfl)))))
            try simp only [Act.put, List.setIfInBounds_toArray, List.set_cons_zero, List.set_cons_succ]
            first | (refine takeU (i := 1) (oi := { dst := some 64, op := Op.move (Operand.tmp 10), type := 21, pos := "law.go:96", after := #[], guard := none }) rfl (by kernel_rfl) (by kernel_rfl) (by kernel_rfl) (fun _ _ _ h => h) ?_ hHeld ?_; (focus rfl)) | (refine takeW (i := 1) (oi := { dst := some 64, op := Op.move (Operand.tmp 10), type := 21, pos := "law.go:96", after := #[], guard := none }) ?_ rfl (by kernel_rfl) (by kernel_rfl) (by kernel_rfl) (fun _ _ _ h => h) ?_ ?_ hHeld ?_; rotate_left; (focus rfl); (focus (intro wq hSq; obtain ⟨q0, q1, q2, q3⟩ := hSq; (first | (go_simp; done) | (go_simp; with_reducible rfl)))))
            try simp only [Act.put, List.setIfInBounds_toArray, List.set_cons_zero, List.set_cons_succ]
            first | (refine takeU (i := 3) (oi := { dst := some 66, op := Op.move (Operand.tmp 9), type := 3, pos := "law.go:96", after := #[], guard := none }) rfl (by kernel_rfl) (by kernel_rfl) (by kernel_rfl) (fun _ _ _ h => h) ?_ hHeld ?_; (focus rfl)) | (refine takeW (i := 3) (oi := { dst := some 66, op := Op.move (Operand.tmp 9), type := 3, pos := "law.go:96", after := #[], guard := none }) ?_ rfl (by kernel_rfl) (by kernel_rfl) (by kernel_rfl) (fun _ _ _ h => h) ?_ ?_ hHeld ?_; rotate_left; (focus rfl); (focus (intro wq hSq; obtain ⟨q0, q1, q2, q3⟩ := hSq; (first | (go_simp; done) | (go_simp; with_reducible rfl)))))
            try simp only [Act.put, List.setIfInBounds_toArray, List.set_cons_zero, List.set_cons_succ]
            refine wpAnyH_ready (rs := [2]) (by kernel_rfl) (by simp) ?_
            refine AllReadyH.cons (o := { dst := some 65, op := Op.call { callee := Callee.value (Operand.func 13), args := #[Operand.tmp 63, Operand.tmp 64], argTypes := #[9, 21] }, type := 3, pos := "law.go:96", after := #[{ on := 0, ground := Ground.data }, { on := 1, ground := Ground.data }], guard := none }) rfl (fun K hK => ?_) AllReadyH.nil
            first | (refine effU ?_ ?_; (focus rfl)) | (go_simp; (go_at_call 13; refine (CF _).mono ?_; rintro e x1 ⟨rfl, hb⟩; have m0 := keep9 ((OwnR.below (w := w2.drew) k2.out hb)) (k3.out.drew.trans (hb.mono (Nat.le_of_lt k2.out.base_.2))) HR.out); go_wp2_with fail)
            refine hK.out _ _ ?_ (fun hHeld2 => ?_)
            · first | with_reducible assumption | (exact m0) | assumption
            clear hK K hHeld
            have hHeld := hHeld2; clear hHeld2
            try simp only [Act.put, List.setIfInBounds_toArray, List.set_cons_zero, List.set_cons_succ]
            first | (refine takeU (i := 4) (oi := { dst := some 67, op := Op.binOp BinOp.neq 3 (Operand.tmp 65) (Operand.tmp 66) 3, type := 4, pos := "law.go:96", after := #[{ on := 2, ground := Ground.data }, { on := 3, ground := Ground.data }], guard := none }) rfl (by kernel_rfl) (by kernel_rfl) (by kernel_rfl) (fun _ _ _ h => h) ?_ hHeld ?_; (focus rfl)) | (refine takeW (i := 4) (oi := { dst := some 67, op := Op.binOp BinOp.neq 3 (Operand.tmp 65) (Operand.tmp 66) 3, type := 4, pos := "law.go:96", after := #[{ on := 2, ground := Ground.data }, { on := 3, ground := Ground.data }], guard := none }) ?_ rfl (by kernel_rfl) (by kernel_rfl) (by kernel_rfl) (fun _ _ _ h => h) ?_ ?_ hHeld ?_; rotate_left; (focus rfl); (focus (intro wq hSq; obtain ⟨q0, q1, q2, q3⟩ := hSq; (first | (go_simp; done) | (go_simp; with_reducible rfl)))))
            try simp only [Act.put, List.setIfInBounds_toArray, List.set_cons_zero, List.set_cons_succ]
            first | (refine takeU (i := 5) (oi := { dst := some 68, op := Op.move (Operand.tmp 67), type := 4, pos := "law.go:96", after := #[{ on := 4, ground := Ground.data }, { on := 2, ground := Ground.chain }], guard := none }) rfl (by kernel_rfl) (by kernel_rfl) (by kernel_rfl) (fun _ _ _ h => h) ?_ hHeld ?_; (focus rfl)) | (refine takeW (i := 5) (oi := { dst := some 68, op := Op.move (Operand.tmp 67), type := 4, pos := "law.go:96", after := #[{ on := 4, ground := Ground.data }, { on := 2, ground := Ground.chain }], guard := none }) ?_ rfl (by kernel_rfl) (by kernel_rfl) (by kernel_rfl) (fun _ _ _ h => h) ?_ ?_ hHeld ?_; rotate_left; (focus rfl); (focus (intro wq hSq; obtain ⟨q0, q1, q2, q3⟩ := hSq; (first | (go_simp; done) | (go_simp; with_reducible rfl)))))
            try simp only [Act.put, List.setIfInBounds_toArray, List.set_cons_zero, List.set_cons_succ]
            first | (refine takeU (i := 6) (oi := { dst := some 69, op := Op.move (Operand.tmp 8), type := 9, pos := "law.go:96", after := #[{ on := 5, ground := Ground.guard }], guard := some (5, false) }) rfl (by kernel_rfl) (by kernel_rfl) (by kernel_rfl) (fun _ _ _ h => h) ?_ hHeld ?_; (focus rfl)) | (refine takeW (i := 6) (oi := { dst := some 69, op := Op.move (Operand.tmp 8), type := 9, pos := "law.go:96", after := #[{ on := 5, ground := Ground.guard }], guard := some (5, false) }) ?_ rfl (by kernel_rfl) (by kernel_rfl) (by kernel_rfl) (fun _ _ _ h => h) ?_ ?_ hHeld ?_; rotate_left; (focus rfl); (focus (intro wq hSq; obtain ⟨q0, q1, q2, q3⟩ := hSq; (first | (go_simp; done) | (go_simp; with_reducible rfl)))))
            try simp only [Act.put, List.setIfInBounds_toArray, List.set_cons_zero, List.set_cons_succ]
            first | (refine takeU (i := 7) (oi := { dst := some 70, op := Op.move (Operand.tmp 10), type := 21, pos := "law.go:96", after := #[{ on := 5, ground := Ground.guard }], guard := some (5, false) }) rfl (by kernel_rfl) (by kernel_rfl) (by kernel_rfl) (fun _ _ _ h => h) ?_ hHeld ?_; (focus rfl)) | (refine takeW (i := 7) (oi := { dst := some 70, op := Op.move (Operand.tmp 10), type := 21, pos := "law.go:96", after := #[{ on := 5, ground := Ground.guard }], guard := some (5, false) }) ?_ rfl (by kernel_rfl) (by kernel_rfl) (by kernel_rfl) (fun _ _ _ h => h) ?_ ?_ hHeld ?_; rotate_left; (focus rfl); (focus (intro wq hSq; obtain ⟨q0, q1, q2, q3⟩ := hSq; (first | (go_simp; done) | (go_simp; with_reducible rfl)))))
            try simp only [Act.put, List.setIfInBounds_toArray, List.set_cons_zero, List.set_cons_succ]
            first | (refine takeU (i := 8) (oi := { dst := some 71, op := Op.convert 21 9 (Operand.tmp 70), type := 9, pos := "law.go:96", after := #[{ on := 7, ground := Ground.data }, { on := 5, ground := Ground.guard }], guard := some (5, false) }) rfl (by kernel_rfl) (by kernel_rfl) (by kernel_rfl) (fun _ _ _ h => h) ?_ hHeld ?_; (focus rfl)) | (refine takeW (i := 8) (oi := { dst := some 71, op := Op.convert 21 9 (Operand.tmp 70), type := 9, pos := "law.go:96", after := #[{ on := 7, ground := Ground.data }, { on := 5, ground := Ground.guard }], guard := some (5, false) }) ?_ rfl (by kernel_rfl) (by kernel_rfl) (by kernel_rfl) (fun _ _ _ h => h) ?_ ?_ hHeld ?_; rotate_left; (focus rfl); (focus (intro wq hSq; obtain ⟨q0, q1, q2, q3⟩ := hSq; (first | (go_simp; done) | (go_simp; with_reducible rfl)))))
            try simp only [Act.put, List.setIfInBounds_toArray, List.set_cons_zero, List.set_cons_succ]
            first | (refine takeU (i := 9) (oi := { dst := some 72, op := Op.binOp BinOp.add 9 (Operand.tmp 69) (Operand.tmp 71) 9, type := 9, pos := "law.go:96", after := #[{ on := 6, ground := Ground.data }, { on := 8, ground := Ground.data }, { on := 5, ground := Ground.guard }], guard := some (5, false) }) rfl (by kernel_rfl) (by kernel_rfl) (by kernel_rfl) (fun _ _ _ h => h) ?_ hHeld ?_; (focus rfl)) | (refine takeW (i := 9) (oi := { dst := some 72, op := Op.binOp BinOp.add 9 (Operand.tmp 69) (Operand.tmp 71) 9, type := 9, pos := "law.go:96", after := #[{ on := 6, ground := Ground.data }, { on := 8, ground := Ground.data }, { on := 5, ground := Ground.guard }], guard := some (5, false) }) ?_ rfl (by kernel_rfl) (by kernel_rfl) (by kernel_rfl) (fun _ _ _ h => h) ?_ ?_ hHeld ?_; rotate_left; (focus rfl); (focus (intro wq hSq; obtain ⟨q0, q1, q2, q3⟩ := hSq; (first | (go_simp; done) | (go_simp; with_reducible rfl)))))
            try simp only [Act.put, List.setIfInBounds_toArray, List.set_cons_zero, List.set_cons_succ]
            refine wpAnyH_ready (rs := [10]) (by kernel_rfl) (by simp) ?_
            refine AllReadyH.cons (o := { dst := some 73, op := Op.call { callee := Callee.value (Operand.func 14), args := #[Operand.tmp 72, Operand.const (Value.int IntKind.i64 4)], argTypes := #[9, 3] }, type := 4, pos := "law.go:96", after := #[{ on := 9, ground := Ground.data }, { on := 5, ground := Ground.chain }, { on := 5, ground := Ground.guard }], guard := some (5, false) }) rfl (fun K hK => ?_) AllReadyH.nil
            first | (refine effU ?_ ?_; (focus rfl)) | (go_simp; (go_at_call 14; refine (CA _).mono ?_; rintro e x2 ⟨rfl, hb⟩; have m1 := keep9 (m0.2.2.1.out.below hb) (m0.2.2.2.out.trans (hb.mono (Nat.le_of_lt m0.2.2.1.out.base_.2))) HR.out); go_wp2_with fail)
            refine hK.out _ _ ?_ (fun hHeld2 => ?_)
            · first | with_reducible assumption | (exact m1) | assumption
            clear hK K hHeld
            have hHeld := hHeld2; clear hHeld2
            try simp only [Act.put, List.setIfInBounds_toArray, List.set_cons_zero, List.set_cons_succ]
            first | (refine takeU (i := 11) (oi := { dst := some 74, op := Op.pick (Operand.tmp 68) (Operand.const (Value.bool true)) (Operand.tmp 73), type := 4, pos := "law.go:96", after := #[{ on := 5, ground := Ground.data }, { on := 10, ground := Ground.data }], guard := none }) rfl (by kernel_rfl) (by kernel_rfl) (by kernel_rfl) (fun _ _ _ h => h) ?_ hHeld ?_; (focus rfl)) | (refine takeW (i := 11) (oi := { dst := some 74, op := Op.pick (Operand.tmp 68) (Operand.const (Value.bool true)) (Operand.tmp 73), type := 4, pos := "law.go:96", after := #[{ on := 5, ground := Ground.data }, { on := 10, ground := Ground.data }], guard := none }) ?_ rfl (by kernel_rfl) (by kernel_rfl) (by kernel_rfl) (fun _ _ _ h => h) ?_ ?_ hHeld ?_; rotate_left; (focus rfl); (focus (intro wq hSq; obtain ⟨q0, q1, q2, q3⟩ := hSq; (first | (go_simp; done) | (go_simp; with_reducible rfl)))))
            try simp only [Act.put, List.setIfInBounds_toArray, List.set_cons_zero, List.set_cons_succ]
            first | (refine takeU (i := 12) (oi := { dst := some 75, op := Op.move (Operand.tmp 74), type := 4, pos := "law.go:96", after := #[{ on := 11, ground := Ground.data }, { on := 10, ground := Ground.chain }], guard := none }) rfl (by kernel_rfl) (by kernel_rfl) (by kernel_rfl) (fun _ _ _ h => h) ?_ hHeld ?_; (focus rfl)) | (refine takeW (i := 12) (oi := { dst := some 75, op := Op.move (Operand.tmp 74), type := 4, pos := "law.go:96", after := #[{ on := 11, ground := Ground.data }, { on := 10, ground := Ground.chain }], guard := none }) ?_ rfl (by kernel_rfl) (by kernel_rfl) (by kernel_rfl) (fun _ _ _ h => h) ?_ ?_ hHeld ?_; rotate_left; (focus rfl); (focus (intro wq hSq; obtain ⟨q0, q1, q2, q3⟩ := hSq; (first | (go_simp; done) | (go_simp; with_reducible rfl)))))
            try simp only [Act.put, List.setIfInBounds_toArray, List.set_cons_zero, List.set_cons_succ]
            first | (refine takeU (i := 13) (oi := { dst := some 76, op := Op.move (Operand.tmp 7), type := 33, pos := "law.go:96", after := #[{ on := 12, ground := Ground.guard }], guard := some (12, false) }) rfl (by kernel_rfl) (by kernel_rfl) (by kernel_rfl) (fun _ _ _ h => h) ?_ hHeld ?_; (focus rfl)) | (refine takeW (i := 13) (oi := { dst := some 76, op := Op.move (Operand.tmp 7), type := 33, pos := "law.go:96", after := #[{ on := 12, ground := Ground.guard }], guard := some (12, false) }) ?_ rfl (by kernel_rfl) (by kernel_rfl) (by kernel_rfl) (fun _ _ _ h => h) ?_ ?_ hHeld ?_; rotate_left; (focus rfl); (focus (intro wq hSq; obtain ⟨q0, q1, q2, q3⟩ := hSq; (first | (go_simp; done) | (go_simp; with_reducible rfl)))))
            try simp only [Act.put, List.setIfInBounds_toArray, List.set_cons_zero, List.set_cons_succ]
            first | (refine takeU (i := 14) (oi := { dst := some 77, op := Op.slice 33 (Operand.tmp 76) none (some (Operand.const (Value.int IntKind.i64 2))) none, type := 33, pos := "law.go:96", after := #[{ on := 13, ground := Ground.data }, { on := 12, ground := Ground.guard }], guard := some (12, false) }) rfl (by kernel_rfl) (by kernel_rfl) (by kernel_rfl) (fun _ _ _ h => h) ?_ hHeld ?_; (focus rfl)) | (refine takeW (i := 14) (oi := { dst := some 77, op := Op.slice 33 (Operand.tmp 76) none (some (Operand.const (Value.int IntKind.i64 2))) none, type := 33, pos := "law.go:96", after := #[{ on := 13, ground := Ground.data }, { on := 12, ground := Ground.guard }], guard := some (12, false) }) ?_ rfl (by kernel_rfl) (by kernel_rfl) (by kernel_rfl) (fun _ _ _ h => h) ?_ ?_ hHeld ?_; rotate_left; (focus rfl); (focus (intro wq hSq; obtain ⟨q0, q1, q2, q3⟩ := hSq; (first | (go_simp; done) | (go_simp; with_reducible rfl)))))
            try simp only [Act.put, List.setIfInBounds_toArray, List.set_cons_zero, List.set_cons_succ]
            first | (refine takeU (i := 15) (oi := { dst := some 78, op := Op.convert 33 9 (Operand.tmp 77), type := 9, pos := "law.go:96", after := #[{ on := 14, ground := Ground.data }, { on := 12, ground := Ground.guard }], guard := some (12, false) }) rfl (by kernel_rfl) (by kernel_rfl) (by kernel_rfl) (fun _ _ _ h => h) ?_ hHeld ?_; (focus rfl)) | (refine takeW (i := 15) (oi := { dst := some 78, op := Op.convert 33 9 (Operand.tmp 77), type := 9, pos := "law.go:96", after := #[{ on := 14, ground := Ground.data }, { on := 12, ground := Ground.guard }], guard := some (12, false) }) ?_ rfl (by kernel_rfl) (by kernel_rfl) (by kernel_rfl) (fun _ _ _ h => h) ?_ ?_ hHeld ?_; rotate_left; (focus rfl); (focus (intro wq hSq; obtain ⟨q0, q1, q2, q3⟩ := hSq; (first | (go_simp; done) | (go_simp; with_reducible rfl)))))
            try simp only [Act.put, List.setIfInBounds_toArray, List.set_cons_zero, List.set_cons_succ]
            first | (refine takeU (i := 16) (oi := { dst := some 79, op := Op.move (Operand.tmp 7), type := 33, pos := "law.go:96", after := #[{ on := 12, ground := Ground.guard }], guard := some (12, false) }) rfl (by kernel_rfl) (by kernel_rfl) (by kernel_rfl) (fun _ _ _ h => h) ?_ hHeld ?_; (focus rfl)) | (refine takeW (i := 16) (oi := { dst := some 79, op := Op.move (Operand.tmp 7), type := 33, pos := "law.go:96", after := #[{ on := 12, ground := Ground.guard }], guard := some (12, false) }) ?_ rfl (by kernel_rfl) (by kernel_rfl) (by kernel_rfl) (fun _ _ _ h => h) ?_ ?_ hHeld ?_; rotate_left; (focus rfl); (focus (intro wq hSq; obtain ⟨q0, q1, q2, q3⟩ := hSq; (first | (go_simp; done) | (go_simp; with_reducible rfl)))))
            try simp only [Act.put, List.setIfInBounds_toArray, List.set_cons_zero, List.set_cons_succ]
            first | (refine takeU (i := 17) (oi := { dst := some 80, op := Op.move (Operand.tmp 9), type := 3, pos := "law.go:96", after := #[{ on := 12, ground := Ground.guard }], guard := some (12, false) }) rfl (by kernel_rfl) (by kernel_rfl) (by kernel_rfl) (fun _ _ _ h => h) ?_ hHeld ?_; (focus rfl)) | (refine takeW (i := 17) (oi := { dst := some 80, op := Op.move (Operand.tmp 9), type := 3, pos := "law.go:96", after := #[{ on := 12, ground := Ground.guard }], guard := some (12, false) }) ?_ rfl (by kernel_rfl) (by kernel_rfl) (by kernel_rfl) (fun _ _ _ h => h) ?_ ?_ hHeld ?_; rotate_left; (focus rfl); (focus (intro wq hSq; obtain ⟨q0, q1, q2, q3⟩ := hSq; (first | (go_simp; done) | (go_simp; with_reducible rfl)))))
            try simp only [Act.put, List.setIfInBounds_toArray, List.set_cons_zero, List.set_cons_succ]
            first | (refine takeU (i := 18) (oi := { dst := some 81, op := Op.indexAddr 33 (Operand.tmp 79) (Operand.tmp 80), type := 0, pos := "law.go:96", after := #[{ on := 16, ground := Ground.data }, { on := 17, ground := Ground.data }, { on := 12, ground := Ground.guard }], guard := some (12, false) }) rfl (by kernel_rfl) (by kernel_rfl) (by kernel_rfl) (fun _ _ _ h => h) ?_ hHeld ?_; (focus rfl)) | (refine takeW (i := 18) (oi := { dst := some 81, op := Op.indexAddr 33 (Operand.tmp 79) (Operand.tmp 80), type := 0, pos := "law.go:96", after := #[{ on := 16, ground := Ground.data }, { on := 17, ground := Ground.data }, { on := 12, ground := Ground.guard }], guard := some (12, false) }) ?_ rfl (by kernel_rfl) (by kernel_rfl) (by kernel_rfl) (fun _ _ _ h => h) ?_ ?_ hHeld ?_; rotate_left; (focus rfl); (focus (intro wq hSq; obtain ⟨q0, q1, q2, q3⟩ := hSq; (first | (go_simp; done) | (go_simp; with_reducible rfl)))))
            try simp only [Act.put, List.setIfInBounds_toArray, List.set_cons_zero, List.set_cons_succ]
            first | (refine takeU (i := 19) (oi := { dst := some 82, op := Op.load 21 (Operand.tmp 81), type := 21, pos := "law.go:96", after := #[{ on := 18, ground := Ground.data }, { on := 12, ground := Ground.guard }], guard := some (12, false) }) rfl (by kernel_rfl) (by kernel_rfl) (by kernel_rfl) (fun _ _ _ h => h) ?_ hHeld ?_; (focus rfl)) | (refine takeW (i := 19) (oi := { dst := some 82, op := Op.load 21 (Operand.tmp 81), type := 21, pos := "law.go:96", after := #[{ on := 18, ground := Ground.data }, { on := 12, ground := Ground.guard }], guard := some (12, false) }) ?_ rfl (by kernel_rfl) (by kernel_rfl) (by kernel_rfl) (fun _ _ _ h => h) ?_ ?_ hHeld ?_; rotate_left; (focus rfl); (focus (intro wq hSq; obtain ⟨q0, q1, q2, q3⟩ := hSq; (first | (go_simp; done) | (go_simp; with_reducible rfl)))))
            try simp only [Act.put, List.setIfInBounds_toArray, List.set_cons_zero, List.set_cons_succ]
            first | (refine takeU (i := 20) (oi := { dst := some 83, op := Op.convert 21 9 (Operand.tmp 82), type := 9, pos := "law.go:96", after := #[{ on := 19, ground := Ground.data }, { on := 12, ground := Ground.guard }], guard := some (12, false) }) rfl (by kernel_rfl) (by kernel_rfl) (by kernel_rfl) (fun _ _ _ h => h) ?_ hHeld ?_; (focus rfl)) | (refine takeW (i := 20) (oi := { dst := some 83, op := Op.convert 21 9 (Operand.tmp 82), type := 9, pos := "law.go:96", after := #[{ on := 19, ground := Ground.data }, { on := 12, ground := Ground.guard }], guard := some (12, false) }) ?_ rfl (by kernel_rfl) (by kernel_rfl) (by kernel_rfl) (fun _ _ _ h => h) ?_ ?_ hHeld ?_; rotate_left; (focus rfl); (focus (intro wq hSq; obtain ⟨q0, q1, q2, q3⟩ := hSq; (first | (go_simp; done) | (go_simp; with_reducible rfl)))))
            try simp only [Act.put, List.setIfInBounds_toArray, List.set_cons_zero, List.set_cons_succ]
            first | (refine takeU (i := 21) (oi := { dst := some 84, op := Op.binOp BinOp.add 9 (Operand.tmp 78) (Operand.tmp 83) 9, type := 9, pos := "law.go:96", after := #[{ on := 15, ground := Ground.data }, { on := 20, ground := Ground.data }, { on := 12, ground := Ground.guard }], guard := some (12, false) }) rfl (by kernel_rfl) (by kernel_rfl) (by kernel_rfl) (fun _ _ _ h => h) ?_ hHeld ?_; (focus rfl)) | (refine takeW (i := 21) (oi := { dst := some 84, op := Op.binOp BinOp.add 9 (Operand.tmp 78) (Operand.tmp 83) 9, type := 9, pos := "law.go:96", after := #[{ on := 15, ground := Ground.data }, { on := 20, ground := Ground.data }, { on := 12, ground := Ground.guard }], guard := some (12, false) }) ?_ rfl (by kernel_rfl) (by kernel_rfl) (by kernel_rfl) (fun _ _ _ h => h) ?_ ?_ hHeld ?_; rotate_left; (focus rfl); (focus (intro wq hSq; obtain ⟨q0, q1, q2, q3⟩ := hSq; (first | (go_simp; done) | (go_simp; with_reducible rfl)))))
            try simp only [Act.put, List.setIfInBounds_toArray, List.set_cons_zero, List.set_cons_succ]
            first | (refine takeU (i := 23) (oi := { dst := some 86, op := Op.move (Operand.tmp 9), type := 3, pos := "law.go:96", after := #[{ on := 12, ground := Ground.guard }], guard := some (12, false) }) rfl (by kernel_rfl) (by kernel_rfl) (by kernel_rfl) (fun _ _ _ h => h) ?_ hHeld ?_; (focus rfl)) | (refine takeW (i := 23) (oi := { dst := some 86, op := Op.move (Operand.tmp 9), type := 3, pos := "law.go:96", after := #[{ on := 12, ground := Ground.guard }], guard := some (12, false) }) ?_ rfl (by kernel_rfl) (by kernel_rfl) (by kernel_rfl) (fun _ _ _ h => h) ?_ ?_ hHeld ?_; rotate_left; (focus rfl); (focus (intro wq hSq; obtain ⟨q0, q1, q2, q3⟩ := hSq; (first | (go_simp; done) | (go_simp; with_reducible rfl)))))
            try simp only [Act.put, List.setIfInBounds_toArray, List.set_cons_zero, List.set_cons_succ]
            first | (refine takeU (i := 24) (oi := { dst := some 87, op := Op.binOp BinOp.eql 3 (Operand.tmp 86) (Operand.const (Value.int IntKind.i64 2)) 3, type := 4, pos := "law.go:96", after := #[{ on := 23, ground := Ground.data }, { on := 12, ground := Ground.guard }], guard := some (12, false) }) rfl (by kernel_rfl) (by kernel_rfl) (by kernel_rfl) (fun _ _ _ h => h) ?_ hHeld ?_; (focus rfl)) | (refine takeW (i := 24) (oi := { dst := some 87, op := Op.binOp BinOp.eql 3 (Operand.tmp 86) (Operand.const (Value.int IntKind.i64 2)) 3, type := 4, pos := "law.go:96", after := #[{ on := 23, ground := Ground.data }, { on := 12, ground := Ground.guard }], guard := some (12, false) }) ?_ rfl (by kernel_rfl) (by kernel_rfl) (by kernel_rfl) (fun _ _ _ h => h) ?_ ?_ hHeld ?_; rotate_left; (focus rfl); (focus (intro wq hSq; obtain ⟨q0, q1, q2, q3⟩ := hSq; (first | (go_simp; done) | (go_simp; with_reducible rfl)))))
            try simp only [Act.put, List.setIfInBounds_toArray, List.set_cons_zero, List.set_cons_succ]
            refine wpAnyH_ready (rs := [22]) (by kernel_rfl) (by simp) ?_
            refine AllReadyH.cons (o := { dst := some 85, op := Op.call { callee := Callee.value (Operand.func 14), args := #[Operand.tmp 84, Operand.const (Value.int IntKind.i64 3)], argTypes := #[9, 3] }, type := 4, pos := "law.go:96", after := #[{ on := 21, ground := Ground.data }, { on := 12, ground := Ground.chain }, { on := 12, ground := Ground.guard }], guard := some (12, false) }) rfl (fun K hK => ?_) AllReadyH.nil
            first | (refine effU ?_ ?_; (focus rfl)) | (go_simp; (go_at_call 14; refine (CB _).mono ?_; rintro e x3 ⟨rfl, hb⟩; have m2 := keep9 (m1.2.2.1.out.below hb) (m1.2.2.2.out.trans (hb.mono (Nat.le_of_lt m1.2.2.1.out.base_.2))) HR.out); go_wp2_with fail)
            refine hK.out _ _ ?_ (fun hHeld2 => ?_)
            · first | with_reducible assumption | (exact m2) | assumption
            clear hK K hHeld
            have hHeld := hHeld2; clear hHeld2
            try simp only [Act.put, List.setIfInBounds_toArray, List.set_cons_zero, List.set_cons_succ]
            first | (refine takeU (i := 25) (oi := { dst := some 88, op := Op.binOp BinOp.neq 4 (Operand.tmp 85) (Operand.tmp 87) 4, type := 4, pos := "law.go:96", after := #[{ on := 22, ground := Ground.data }, { on := 24, ground := Ground.data }, { on := 12, ground := Ground.guard }], guard := some (12, false) }) rfl (by kernel_rfl) (by kernel_rfl) (by kernel_rfl) (fun _ _ _ h => h) ?_ hHeld ?_; (focus rfl)) | (refine takeW (i := 25) (oi := { dst := some 88, op := Op.binOp BinOp.neq 4 (Operand.tmp 85) (Operand.tmp 87) 4, type := 4, pos := "law.go:96", after := #[{ on := 22, ground := Ground.data }, { on := 24, ground := Ground.data }, { on := 12, ground := Ground.guard }], guard := some (12, false) }) ?_ rfl (by kernel_rfl) (by kernel_rfl) (by kernel_rfl) (fun _ _ _ h => h) ?_ ?_ hHeld ?_; rotate_left; (focus rfl); (focus (intro wq hSq; obtain ⟨q0, q1, q2, q3⟩ := hSq; (first | (go_simp; done) | (go_simp; with_reducible rfl)))))
            try simp only [Act.put, List.setIfInBounds_toArray, List.set_cons_zero, List.set_cons_succ]
            first | (refine takeU (i := 26) (oi := { dst := some 89, op := Op.pick (Operand.tmp 75) (Operand.const (Value.bool true)) (Operand.tmp 88), type := 4, pos := "law.go:96", after := #[{ on := 12, ground := Ground.data }, { on := 25, ground := Ground.data }], guard := none }) rfl (by kernel_rfl) (by kernel_rfl) (by kernel_rfl) (fun _ _ _ h => h) ?_ hHeld ?_; (focus rfl)) | (refine takeW (i := 26) (oi := { dst := some 89, op := Op.pick (Operand.tmp 75) (Operand.const (Value.bool true)) (Operand.tmp 88), type := 4, pos := "law.go:96", after := #[{ on := 12, ground := Ground.data }, { on := 25, ground := Ground.data }], guard := none }) ?_ rfl (by kernel_rfl) (by kernel_rfl) (by kernel_rfl) (fun _ _ _ h => h) ?_ ?_ hHeld ?_; rotate_left; (focus rfl); (focus (intro wq hSq; obtain ⟨q0, q1, q2, q3⟩ := hSq; (first | (go_simp; done) | (go_simp; with_reducible rfl)))))
            try simp only [Act.put, List.setIfInBounds_toArray, List.set_cons_zero, List.set_cons_succ]
            refine wpAnyH_done (by kernel_rfl) ?_ _
            go_wp2_with fail
            go_meet
            exact ⟨congrArg Value.bool kq, m2.2.2.1.out, m2.2.2.2.out⟩
          case rest =>
            obtain ⟨rfl, hO, hB⟩ := hcut
            go_wp2
            go_roundw
            case rel => exact ⟨k + 1, by go_num, by omega, hO, hB⟩
            case measure => simp [intOf]; omega
        · have hd1 : decide ((k : Int) < 3) = false := by simp; omega
          have CN := fun w : World => nNote_any (w := w) (s := runesBytes [u, y, z]) (t := runesBytes [z, 46, u, y]) 4 HTS.out (by have := runesBytes_size_le [z, 46, u, y]; simp at this; omega)
          have CR := fun w : World => nRight_any (w := w) (s := runesBytes [u, y, z]) 3 HTS.out
          simp only [HT.out, runes_bytes [z, 46, u, y] (by intro q hq; simp at hq; omega), note9 hu1 hu3 hu2 py1 (by omega) pz1] at CN
          simp only [HT.out, right_all9 hu1 hu3 hu2 py1 (by omega) pz1 (by omega)] at CR
          have hbl := (Below.refl w2.drew.heap.size w2.drew).alloc (Nat.le_refl _) (.cells #[.int .i32 z, .int .i32 46, .int .i32 u, .int .i32 y] 21)
          have ml := keep12 (OwnR.below (w := w2.drew) hO hbl) (hB.drew.trans (hbl.mono (Nat.le_of_lt hO.base_.2)))
          have hq := OwnR.text (w := (w2.alloc (.cells #[.int .i32 z, .int .i32 46, .int .i32 u, .int .i32 y] 21)).drew) (OwnR.drewN (ownR_lit w2 (base := w2.heap.size) (n := 4) 21 #[.int .i32 z, .int .i32 46, .int .i32 u, .int .i32 y] [z, 46, u, y] (Nat.le_refl _) rfl rfl (by omega) (by intro q hq; simp at hq; unfold FitsR; omega)) 1) (src := 33) (e := 21) (dst := 9) (by kernel_rfl) (by kernel_rfl) (by kernel_rfl) 4 (by omega) 4
          rw [show [z, 46, u, y].take 4 = [z, 46, u, y] from rfl] at hq
          have HBL := Lib.hid hbl
          have HML := Lib.hid ml
          have HQ := Lib.hid hq
          have HK := Lib.hid (keep12 (w := w2.drew) hO hB.drew)
          clear hbl ml hq hO hB
          go_upto_region 11 with fail
          refine wp_region_held_drew (S := (fun w' => w'.cell? ⟨g, 0, none⟩ = some (.int .i32 u) ∧ w'.cell? ⟨g, 1, none⟩ = some (.int .i32 y) ∧ w'.cell? ⟨g, 2, none⟩ = some (.int .i32 z) ∧ Hid (OwnR w' g 21 g 3 3 [u, y, z]) ∧ Hid (Below g w w'))) (by kernel_rfl) ?_ (fun hHeld => ?_)
          · exact HK.out
          first | (refine takeU (i := 0) (oi := { dst := some 92, op := Op.move (Operand.tmp 8), type := 9, pos := "law.go:100", after := #[], guard := none }) rfl (by kernel_rfl) (by kernel_rfl) (by kernel_rfl) (fun _ _ _ h => h) ?_ hHeld ?_; (focus rfl)) | (refine takeW (i := 0) (oi := { dst := some 92, op := Op.move (Operand.tmp 8), type := 9, pos := "law.go:100", after := #[], guard := none }) ?_ rfl (by kernel_rfl) (by kernel_rfl) (by kernel_rfl) (fun _ _ _ h => h) ?_ ?_ hHeld ?_; rotate_left; (focus rfl); (focus (intro wq hSq; obtain ⟨q0, q1, q2, q3, q4⟩ := hSq; (first | (go_simp; done) | (go_simp; with_reducible rfl)))))
          try simp only [Act.put, List.setIfInBounds_toArray, List.set_cons_zero, List.set_cons_succ]
          first | (refine takeU (i := 1) (oi := { dst := some 93, op := Op.move (Operand.tmp 7), type := 33, pos := "law.go:100", after := #[], guard := none }) rfl (by kernel_rfl) (by kernel_rfl) (by kernel_rfl) (fun _ _ _ h => h) ?_ hHeld ?_; (focus rfl)) | (refine takeW (i := 1) (oi := { dst := some 93, op := Op.move (Operand.tmp 7), type := 33, pos := "law.go:100", after := #[], guard := none }) ?_ rfl (by kernel_rfl) (by kernel_rfl) (by kernel_rfl) (fun _ _ _ h => h) ?_ ?_ hHeld ?_; rotate_left; (focus rfl); (focus (intro wq hSq; obtain ⟨q0, q1, q2, q3, q4⟩ := hSq; (first | (go_simp; done) | (go_simp; with_reducible rfl)))))
          try simp only [Act.put, List.setIfInBounds_toArray, List.set_cons_zero, List.set_cons_succ]
          first | (refine takeU (i := 2) (oi := { dst := some 94, op := Op.indexAddr 33 (Operand.tmp 93) (Operand.const (Value.int IntKind.i64 2)), type := 0, pos := "law.go:100", after := #[{ on := 1, ground := Ground.data }], guard := none }) rfl (by kernel_rfl) (by kernel_rfl) (by kernel_rfl) (fun _ _ _ h => h) ?_ hHeld ?_; (focus rfl)) | (refine takeW (i := 2) (oi := { dst := some 94, op := Op.indexAddr 33 (Operand.tmp 93) (Operand.const (Value.int IntKind.i64 2)), type := 0, pos := "law.go:100", after := #[{ on := 1, ground := Ground.data }], guard := none }) ?_ rfl (by kernel_rfl) (by kernel_rfl) (by kernel_rfl) (fun _ _ _ h => h) ?_ ?_ hHeld ?_; rotate_left; (focus rfl); (focus (intro wq hSq; obtain ⟨q0, q1, q2, q3, q4⟩ := hSq; (first | (go_simp; done) | (go_simp; with_reducible rfl)))))
          try simp only [Act.put, List.setIfInBounds_toArray, List.set_cons_zero, List.set_cons_succ]
          first | (refine takeU (i := 3) (oi := { dst := some 95, op := Op.load 21 (Operand.tmp 94), type := 21, pos := "law.go:100", after := #[{ on := 2, ground := Ground.data }], guard := none }) rfl (by kernel_rfl) (by kernel_rfl) (by kernel_rfl) (fun _ _ _ h => h) ?_ hHeld ?_; (focus rfl)) | (refine takeW (i := 3) (oi := { dst := some 95, op := Op.load 21 (Operand.tmp 94), type := 21, pos := "law.go:100", after := #[{ on := 2, ground := Ground.data }], guard := none }) ?_ rfl (by kernel_rfl) (by kernel_rfl) (by kernel_rfl) (fun _ _ _ h => h) ?_ ?_ hHeld ?_; rotate_left; (focus rfl); (focus (intro wq hSq; obtain ⟨q0, q1, q2, q3, q4⟩ := hSq; (first | (go_simp; done) | (go_simp; with_reducible rfl)))))
          try simp only [Act.put, List.setIfInBounds_toArray, List.set_cons_zero, List.set_cons_succ]
          first | (refine takeU (i := 4) (oi := { dst := some 96, op := Op.move (Operand.tmp 7), type := 33, pos := "law.go:100", after := #[], guard := none }) rfl (by kernel_rfl) (by kernel_rfl) (by kernel_rfl) (fun _ _ _ h => h) ?_ hHeld ?_; (focus rfl)) | (refine takeW (i := 4) (oi := { dst := some 96, op := Op.move (Operand.tmp 7), type := 33, pos := "law.go:100", after := #[], guard := none }) ?_ rfl (by kernel_rfl) (by kernel_rfl) (by kernel_rfl) (fun _ _ _ h => h) ?_ ?_ hHeld ?_; rotate_left; (focus rfl); (focus (intro wq hSq; obtain ⟨q0, q1, q2, q3, q4⟩ := hSq; (first | (go_simp; done) | (go_simp; with_reducible rfl)))))
          try simp only [Act.put, List.setIfInBounds_toArray, List.set_cons_zero, List.set_cons_succ]
          first | (refine takeU (i := 5) (oi := { dst := some 97, op := Op.indexAddr 33 (Operand.tmp 96) (Operand.const (Value.int IntKind.i64 0)), type := 0, pos := "law.go:100", after := #[{ on := 4, ground := Ground.data }], guard := none }) rfl (by kernel_rfl) (by kernel_rfl) (by kernel_rfl) (fun _ _ _ h => h) ?_ hHeld ?_; (focus rfl)) | (refine takeW (i := 5) (oi := { dst := some 97, op := Op.indexAddr 33 (Operand.tmp 96) (Operand.const (Value.int IntKind.i64 0)), type := 0, pos := "law.go:100", after := #[{ on := 4, ground := Ground.data }], guard := none }) ?_ rfl (by kernel_rfl) (by kernel_rfl) (by kernel_rfl) (fun _ _ _ h => h) ?_ ?_ hHeld ?_; rotate_left; (focus rfl); (focus (intro wq hSq; obtain ⟨q0, q1, q2, q3, q4⟩ := hSq; (first | (go_simp; done) | (go_simp; with_reducible rfl)))))
          try simp only [Act.put, List.setIfInBounds_toArray, List.set_cons_zero, List.set_cons_succ]
          first | (refine takeU (i := 6) (oi := { dst := some 98, op := Op.load 21 (Operand.tmp 97), type := 21, pos := "law.go:100", after := #[{ on := 5, ground := Ground.data }], guard := none }) rfl (by kernel_rfl) (by kernel_rfl) (by kernel_rfl) (fun _ _ _ h => h) ?_ hHeld ?_; (focus rfl)) | (refine takeW (i := 6) (oi := { dst := some 98, op := Op.load 21 (Operand.tmp 97), type := 21, pos := "law.go:100", after := #[{ on := 5, ground := Ground.data }], guard := none }) ?_ rfl (by kernel_rfl) (by kernel_rfl) (by kernel_rfl) (fun _ _ _ h => h) ?_ ?_ hHeld ?_; rotate_left; (focus rfl); (focus (intro wq hSq; obtain ⟨q0, q1, q2, q3, q4⟩ := hSq; (first | (go_simp; done) | (go_simp; with_reducible rfl)))))
          try simp only [Act.put, List.setIfInBounds_toArray, List.set_cons_zero, List.set_cons_succ]
          first | (refine takeU (i := 7) (oi := { dst := some 99, op := Op.move (Operand.tmp 7), type := 33, pos := "law.go:100", after := #[], guard := none }) rfl (by kernel_rfl) (by kernel_rfl) (by kernel_rfl) (fun _ _ _ h => h) ?_ hHeld ?_; (focus rfl)) | (refine takeW (i := 7) (oi := { dst := some 99, op := Op.move (Operand.tmp 7), type := 33, pos := "law.go:100", after := #[], guard := none }) ?_ rfl (by kernel_rfl) (by kernel_rfl) (by kernel_rfl) (fun _ _ _ h => h) ?_ ?_ hHeld ?_; rotate_left; (focus rfl); (focus (intro wq hSq; obtain ⟨q0, q1, q2, q3, q4⟩ := hSq; (first | (go_simp; done) | (go_simp; with_reducible rfl)))))
          try simp only [Act.put, List.setIfInBounds_toArray, List.set_cons_zero, List.set_cons_succ]
          first | (refine takeU (i := 8) (oi := { dst := some 100, op := Op.indexAddr 33 (Operand.tmp 99) (Operand.const (Value.int IntKind.i64 1)), type := 0, pos := "law.go:100", after := #[{ on := 7, ground := Ground.data }], guard := none }) rfl (by kernel_rfl) (by kernel_rfl) (by kernel_rfl) (fun _ _ _ h => h) ?_ hHeld ?_; (focus rfl)) | (refine takeW (i := 8) (oi := { dst := some 100, op := Op.indexAddr 33 (Operand.tmp 99) (Operand.const (Value.int IntKind.i64 1)), type := 0, pos := "law.go:100", after := #[{ on := 7, ground := Ground.data }], guard := none }) ?_ rfl (by kernel_rfl) (by kernel_rfl) (by kernel_rfl) (fun _ _ _ h => h) ?_ ?_ hHeld ?_; rotate_left; (focus rfl); (focus (intro wq hSq; obtain ⟨q0, q1, q2, q3, q4⟩ := hSq; (first | (go_simp; done) | (go_simp; with_reducible rfl)))))
          try simp only [Act.put, List.setIfInBounds_toArray, List.set_cons_zero, List.set_cons_succ]
          first | (refine takeU (i := 9) (oi := { dst := some 101, op := Op.load 21 (Operand.tmp 100), type := 21, pos := "law.go:100", after := #[{ on := 8, ground := Ground.data }], guard := none }) rfl (by kernel_rfl) (by kernel_rfl) (by kernel_rfl) (fun _ _ _ h => h) ?_ hHeld ?_; (focus rfl)) | (refine takeW (i := 9) (oi := { dst := some 101, op := Op.load 21 (Operand.tmp 100), type := 21, pos := "law.go:100", after := #[{ on := 8, ground := Ground.data }], guard := none }) ?_ rfl (by kernel_rfl) (by kernel_rfl) (by kernel_rfl) (fun _ _ _ h => h) ?_ ?_ hHeld ?_; rotate_left; (focus rfl); (focus (intro wq hSq; obtain ⟨q0, q1, q2, q3, q4⟩ := hSq; (first | (go_simp; done) | (go_simp; with_reducible rfl)))))
          try simp only [Act.put, List.setIfInBounds_toArray, List.set_cons_zero, List.set_cons_succ]
          refine wpAnyH_ready (rs := [10]) (by kernel_rfl) (by simp) ?_
          refine (AllReadyH.cons (o := { dst := some 102, op := Op.buildSlice 33 4 #[(0, Operand.tmp 95), (1, Operand.const (Value.int IntKind.i32 46)), (2, Operand.tmp 98), (3, Operand.tmp 101)], type := 33, pos := "law.go:100", after := #[{ on := 3, ground := Ground.data }, { on := 6, ground := Ground.data }, { on := 9, ground := Ground.data }], guard := none }) rfl (fun K hK => ?_) AllReadyH.nil)
          go_simp
          try go_wp2_with fail
          refine hK.out _ _ ?_ (fun hHeld2 => ?_)
          · first | with_reducible assumption | (exact HML.out) | assumption
          clear hK K hHeld
          have hHeld := hHeld2; clear hHeld2
          try simp only [Act.put, List.setIfInBounds_toArray, List.set_cons_zero, List.set_cons_succ]
          refine wpAnyH_ready (rs := [11]) (by kernel_rfl) (by simp) ?_
          refine (AllReadyH.cons (o := { dst := some 103, op := Op.convert 33 9 (Operand.tmp 102), type := 9, pos := "law.go:100", after := #[{ on := 10, ground := Ground.data }], guard := none }) rfl (fun K hK => ?_) AllReadyH.nil)
          (have hq := HQ.out)
          go_simp
          try go_wp2_with fail
          refine hK.out _ _ ?_ (fun hHeld2 => ?_)
          · first | with_reducible assumption | (exact HML.out) | assumption
          clear hK K hHeld
          have hHeld := hHeld2; clear hHeld2
          try simp only [Act.put, List.setIfInBounds_toArray, List.set_cons_zero, List.set_cons_succ]
          refine wpAnyH_ready (rs := [12]) (by kernel_rfl) (by simp) ?_
          refine (AllReadyH.cons (o := { dst := some 104, op := Op.call { callee := Callee.value (Operand.func 11), args := #[Operand.tmp 92, Operand.tmp 103, Operand.const (Value.int IntKind.i64 4)], argTypes := #[9, 9, 3] }, type := 29, pos := "law.go:100", after := #[{ on := 0, ground := Ground.data }, { on := 11, ground := Ground.data }], guard := none }) rfl (fun K hK => ?_) AllReadyH.nil)
          first | (refine effU ?_ ?_; (focus rfl)) | (go_simp; (go_at_call 11; refine (CN _).mono ?_; rintro e x1 ⟨⟨v1, m1, rfl, hO1⟩, hb⟩; have m0 := keep12 (OwnR.below HML.out.2.2.2.1.out hb) (HML.out.2.2.2.2.out.trans (hb.mono (Nat.le_of_lt HML.out.2.2.2.1.out.base_.2)))); go_wp2_with fail)
          refine hK.out _ _ ?_ (fun hHeld2 => ?_)
          · first | with_reducible assumption | (exact m0) | assumption
          clear hK K hHeld
          have hHeld := hHeld2; clear hHeld2
          try simp only [Act.put, List.setIfInBounds_toArray, List.set_cons_zero, List.set_cons_succ]
          first | (refine takeU (i := 13) (oi := { dst := some 91, op := Op.move (Operand.tmp 104), type := 29, pos := "law.go:100", after := #[{ on := 12, ground := Ground.data }], guard := none }) rfl (by kernel_rfl) (by kernel_rfl) (by kernel_rfl) (fun _ _ _ h => h) ?_ hHeld ?_; (focus rfl)) | (refine takeW (i := 13) (oi := { dst := some 91, op := Op.move (Operand.tmp 104), type := 29, pos := "law.go:100", after := #[{ on := 12, ground := Ground.data }], guard := none }) ?_ rfl (by kernel_rfl) (by kernel_rfl) (by kernel_rfl) (fun _ _ _ h => h) ?_ ?_ hHeld ?_; rotate_left; (focus rfl); (focus (intro wq hSq; obtain ⟨q0, q1, q2, q3, q4⟩ := hSq; (first | (go_simp; done) | (go_simp; with_reducible rfl)))))
          try simp only [Act.put, List.setIfInBounds_toArray, List.set_cons_zero, List.set_cons_succ]
          first | (refine takeU (i := 14) (oi := { dst := some 105, op := Op.extract (Operand.tmp 91) 0, type := 24, pos := "law.go:100", after := #[{ on := 13, ground := Ground.data }], guard := none }) rfl (by kernel_rfl) (by kernel_rfl) (by kernel_rfl) (fun _ _ _ h => h) ?_ hHeld ?_; (focus rfl)) | (refine takeW (i := 14) (oi := { dst := some 105, op := Op.extract (Operand.tmp 91) 0, type := 24, pos := "law.go:100", after := #[{ on := 13, ground := Ground.data }], guard := none }) ?_ rfl (by kernel_rfl) (by kernel_rfl) (by kernel_rfl) (fun _ _ _ h => h) ?_ ?_ hHeld ?_; rotate_left; (focus rfl); (focus (intro wq hSq; obtain ⟨q0, q1, q2, q3, q4⟩ := hSq; (first | (go_simp; done) | (go_simp; with_reducible rfl)))))
          try simp only [Act.put, List.setIfInBounds_toArray, List.set_cons_zero, List.set_cons_succ]
          first | (refine takeU (i := 15) (oi := { dst := some 106, op := Op.extract (Operand.tmp 91) 1, type := 4, pos := "law.go:100", after := #[{ on := 13, ground := Ground.data }, { on := 17, ground := Ground.gcOnly Departure.lateStores }], guard := none }) rfl (by kernel_rfl) (by kernel_rfl) (by kernel_rfl) (fun _ _ _ h => h) ?_ hHeld ?_; (focus rfl)) | (refine takeW (i := 15) (oi := { dst := some 106, op := Op.extract (Operand.tmp 91) 1, type := 4, pos := "law.go:100", after := #[{ on := 13, ground := Ground.data }, { on := 17, ground := Ground.gcOnly Departure.lateStores }], guard := none }) ?_ rfl (by kernel_rfl) (by kernel_rfl) (by kernel_rfl) (fun _ _ _ h => h) ?_ ?_ hHeld ?_; rotate_left; (focus rfl); (focus (intro wq hSq; obtain ⟨q0, q1, q2, q3, q4⟩ := hSq; (first | (go_simp; done) | (go_simp; with_reducible rfl)))))
          try simp only [Act.put, List.setIfInBounds_toArray, List.set_cons_zero, List.set_cons_succ]
          first | (refine takeU (i := 16) (oi := { dst := some 107, op := Op.extract (Operand.tmp 91) 2, type := 28, pos := "law.go:100", after := #[{ on := 13, ground := Ground.data }, { on := 18, ground := Ground.gcOnly Departure.lateStores }], guard := none }) rfl (by kernel_rfl) (by kernel_rfl) (by kernel_rfl) (fun _ _ _ h => h) ?_ hHeld ?_; (focus rfl)) | (refine takeW (i := 16) (oi := { dst := some 107, op := Op.extract (Operand.tmp 91) 2, type := 28, pos := "law.go:100", after := #[{ on := 13, ground := Ground.data }, { on := 18, ground := Ground.gcOnly Departure.lateStores }], guard := none }) ?_ rfl (by kernel_rfl) (by kernel_rfl) (by kernel_rfl) (fun _ _ _ h => h) ?_ ?_ hHeld ?_; rotate_left; (focus rfl); (focus (intro wq hSq; obtain ⟨q0, q1, q2, q3, q4⟩ := hSq; (first | (go_simp; done) | (go_simp; with_reducible rfl)))))
          try simp only [Act.put, List.setIfInBounds_toArray, List.set_cons_zero, List.set_cons_succ]
          first | (refine takeU (i := 17) (oi := { dst := some 11, op := Op.assign (Operand.tmp 105), type := 24, pos := "law.go:100", after := #[{ on := 14, ground := Ground.data }, { on := 12, ground := Ground.chain }, { on := 0, ground := Ground.phase }, { on := 1, ground := Ground.phase }, { on := 2, ground := Ground.phase }, { on := 3, ground := Ground.phase }, { on := 4, ground := Ground.phase }, { on := 5, ground := Ground.phase }, { on := 6, ground := Ground.phase }, { on := 7, ground := Ground.phase }, { on := 8, ground := Ground.phase }, { on := 9, ground := Ground.phase }, { on := 10, ground := Ground.phase }, { on := 11, ground := Ground.phase }, { on := 12, ground := Ground.phase }, { on := 13, ground := Ground.phase }, { on := 14, ground := Ground.phase }, { on := 15, ground := Ground.textOnly Departure.lateStores }, { on := 16, ground := Ground.textOnly Departure.lateStores }], guard := none }) rfl (by kernel_rfl) (by kernel_rfl) (by kernel_rfl) (fun _ _ _ h => h) ?_ hHeld ?_; (focus rfl)) | (refine takeW (i := 17) (oi := { dst := some 11, op := Op.assign (Operand.tmp 105), type := 24, pos := "law.go:100", after := #[{ on := 14, ground := Ground.data }, { on := 12, ground := Ground.chain }, { on := 0, ground := Ground.phase }, { on := 1, ground := Ground.phase }, { on := 2, ground := Ground.phase }, { on := 3, ground := Ground.phase }, { on := 4, ground := Ground.phase }, { on := 5, ground := Ground.phase }, { on := 6, ground := Ground.phase }, { on := 7, ground := Ground.phase }, { on := 8, ground := Ground.phase }, { on := 9, ground := Ground.phase }, { on := 10, ground := Ground.phase }, { on := 11, ground := Ground.phase }, { on := 12, ground := Ground.phase }, { on := 13, ground := Ground.phase }, { on := 14, ground := Ground.phase }, { on := 15, ground := Ground.textOnly Departure.lateStores }, { on := 16, ground := Ground.textOnly Departure.lateStores }], guard := none }) ?_ rfl (by kernel_rfl) (by kernel_rfl) (by kernel_rfl) (fun _ _ _ h => h) ?_ ?_ hHeld ?_; rotate_left; (focus rfl); (focus (intro wq hSq; obtain ⟨q0, q1, q2, q3, q4⟩ := hSq; (first | (go_simp; done) | (go_simp; with_reducible rfl)))))
          try simp only [Act.put, List.setIfInBounds_toArray, List.set_cons_zero, List.set_cons_succ]
          first | (refine takeU (i := 18) (oi := { dst := some 12, op := Op.assign (Operand.tmp 106), type := 4, pos := "law.go:100", after := #[{ on := 15, ground := Ground.data }, { on := 17, ground := Ground.chain }, { on := 0, ground := Ground.phase }, { on := 1, ground := Ground.phase }, { on := 2, ground := Ground.phase }, { on := 3, ground := Ground.phase }, { on := 4, ground := Ground.phase }, { on := 5, ground := Ground.phase }, { on := 6, ground := Ground.phase }, { on := 7, ground := Ground.phase }, { on := 8, ground := Ground.phase }, { on := 9, ground := Ground.phase }, { on := 10, ground := Ground.phase }, { on := 11, ground := Ground.phase }, { on := 12, ground := Ground.phase }, { on := 13, ground := Ground.phase }, { on := 14, ground := Ground.phase }, { on := 15, ground := Ground.phase }, { on := 16, ground := Ground.textOnly Departure.lateStores }, { on := 17, ground := Ground.phase }], guard := none }) rfl (by kernel_rfl) (by kernel_rfl) (by kernel_rfl) (fun _ _ _ h => h) ?_ hHeld ?_; (focus rfl)) | (refine takeW (i := 18) (oi := { dst := some 12, op := Op.assign (Operand.tmp 106), type := 4, pos := "law.go:100", after := #[{ on := 15, ground := Ground.data }, { on := 17, ground := Ground.chain }, { on := 0, ground := Ground.phase }, { on := 1, ground := Ground.phase }, { on := 2, ground := Ground.phase }, { on := 3, ground := Ground.phase }, { on := 4, ground := Ground.phase }, { on := 5, ground := Ground.phase }, { on := 6, ground := Ground.phase }, { on := 7, ground := Ground.phase }, { on := 8, ground := Ground.phase }, { on := 9, ground := Ground.phase }, { on := 10, ground := Ground.phase }, { on := 11, ground := Ground.phase }, { on := 12, ground := Ground.phase }, { on := 13, ground := Ground.phase }, { on := 14, ground := Ground.phase }, { on := 15, ground := Ground.phase }, { on := 16, ground := Ground.textOnly Departure.lateStores }, { on := 17, ground := Ground.phase }], guard := none }) ?_ rfl (by kernel_rfl) (by kernel_rfl) (by kernel_rfl) (fun _ _ _ h => h) ?_ ?_ hHeld ?_; rotate_left; (focus rfl); (focus (intro wq hSq; obtain ⟨q0, q1, q2, q3, q4⟩ := hSq; (first | (go_simp; done) | (go_simp; with_reducible rfl)))))
          try simp only [Act.put, List.setIfInBounds_toArray, List.set_cons_zero, List.set_cons_succ]
          first | (refine takeU (i := 19) (oi := { dst := some 13, op := Op.assign (Operand.tmp 107), type := 28, pos := "law.go:100", after := #[{ on := 16, ground := Ground.data }, { on := 18, ground := Ground.chain }, { on := 0, ground := Ground.phase }, { on := 1, ground := Ground.phase }, { on := 2, ground := Ground.phase }, { on := 3, ground := Ground.phase }, { on := 4, ground := Ground.phase }, { on := 5, ground := Ground.phase }, { on := 6, ground := Ground.phase }, { on := 7, ground := Ground.phase }, { on := 8, ground := Ground.phase }, { on := 9, ground := Ground.phase }, { on := 10, ground := Ground.phase }, { on := 11, ground := Ground.phase }, { on := 12, ground := Ground.phase }, { on := 13, ground := Ground.phase }, { on := 14, ground := Ground.phase }, { on := 15, ground := Ground.phase }, { on := 16, ground := Ground.phase }, { on := 17, ground := Ground.phase }, { on := 18, ground := Ground.phase }], guard := none }) rfl (by kernel_rfl) (by kernel_rfl) (by kernel_rfl) (fun _ _ _ h => h) ?_ hHeld ?_; (focus rfl)) | (refine takeW (i := 19) (oi := { dst := some 13, op := Op.assign (Operand.tmp 107), type := 28, pos := "law.go:100", after := #[{ on := 16, ground := Ground.data }, { on := 18, ground := Ground.chain }, { on := 0, ground := Ground.phase }, { on := 1, ground := Ground.phase }, { on := 2, ground := Ground.phase }, { on := 3, ground := Ground.phase }, { on := 4, ground := Ground.phase }, { on := 5, ground := Ground.phase }, { on := 6, ground := Ground.phase }, { on := 7, ground := Ground.phase }, { on := 8, ground := Ground.phase }, { on := 9, ground := Ground.phase }, { on := 10, ground := Ground.phase }, { on := 11, ground := Ground.phase }, { on := 12, ground := Ground.phase }, { on := 13, ground := Ground.phase }, { on := 14, ground := Ground.phase }, { on := 15, ground := Ground.phase }, { on := 16, ground := Ground.phase }, { on := 17, ground := Ground.phase }, { on := 18, ground := Ground.phase }], guard := none }) ?_ rfl (by kernel_rfl) (by kernel_rfl) (by kernel_rfl) (fun _ _ _ h => h) ?_ ?_ hHeld ?_; rotate_left; (focus rfl); (focus (intro wq hSq; obtain ⟨q0, q1, q2, q3, q4⟩ := hSq; (first | (go_simp; done) | (go_simp; with_reducible rfl)))))
          try simp only [Act.put, List.setIfInBounds_toArray, List.set_cons_zero, List.set_cons_succ]
          refine wpAnyH_done (by kernel_rfl) ?_ _
          obtain ⟨A1, c1, rfl, _, hI1, _⟩ := hO1.form
          obtain rfl : 4 = m1 := hI1.len
          have I1 := Lib.hid hI1
          have HB := Lib.hid m0.2.2.2.2.out
          have HGS := Lib.hid (Nat.le_of_lt m0.2.2.2.1.out.base_.2)
          clear hO1 hI1 m0 hb
          go_wp2_with fail
          refine (CR _).mono ?_; rintro e2 x2 ⟨rfl, hb⟩
          replace I1 := Lib.hid (I1.out.below hb)
          replace HB := Lib.hid (HB.out.trans (hb.mono HGS.out))
          replace HGS := Lib.hid (Nat.le_trans HGS.out hb.size)
          clear hb
          go_wp2_with fail
          have hl := (Below.refl x2.heap.size x2).alloc (Nat.le_refl _) (.cells #[.int .i64 2, .int .i64 (-1), .int .i64 0, .int .i64 1] 3)
          replace I1 := Lib.hid (I1.out.below hl)
          replace HB := Lib.hid (HB.out.trans (hl.mono HGS.out))
          replace HGS := Lib.hid (Nat.le_trans HGS.out hl.size)
          clear hl
          refine (bookSame9_eq I1.out (ints_lit x2 3 _ _ _ [2, -1, 0, 1] (by rfl) (by rfl) (by decide))).mono ?_; rintro e3 x3 ⟨rfl, q, rfl⟩
          replace HB := Lib.hid (below_drewN HB.out q)
          go_wp2_with fail
          refine (l9known_any _).mono ?_; rintro e4 x4 ⟨rfl, hb⟩
          go_wp2
          go_ret
          exact ⟨rfl, by rw [HG.out]; exact HB.out.trans (hb.mono HGS.out)⟩
end Go.Proofs.Ytpceebpihojdcaa
