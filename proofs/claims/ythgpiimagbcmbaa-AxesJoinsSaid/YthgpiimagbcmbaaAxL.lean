/- Contract of package axes' lay. -/
import Derived.Test.YthgpiimagbcmbaaAxT
namespace Go.Proofs.Ythgpiimagbcmbaa
open Go.RowKit

theorem Sep.tail_ {w0 w : World} {c : Chunk} {l : List Chunk} (h : Sep w0 w (c :: l)) : Sep w0 w l :=
  ⟨h.1, fun i d hi => h.2.1 (i + 1) d hi, fun i j a b hij hi hj => h.2.2 (i + 1) (j + 1) a b (by omega) hi hj⟩
theorem Sep.less1 {w0 w : World} {c d : Chunk} {l : List Chunk} (h : Sep w0 w (c :: d :: l)) : Sep w0 w (c :: l) :=
  Sep.cons_ h.1 (h.2.1 0 c rfl) h.tail_.tail_.2.1 (fun i e hi => h.2.2 0 (i + 2) c e (by omega) rfl hi) h.tail_.tail_.2.2
set_option maxRecDepth 100000 in
set_option maxHeartbeats 6400000 in
theorem lay_any {w0 w : World} {l : List Chunk} {Z D Af As Bd : Option Addr} {nz zc N dc cf ns cs m dd : Nat} {z o f s d : List Int} {cF : Chunk} (H0 : Sep w0 w l) (i j k a b : Nat)
    (hi : l[i]? = some (.own 2 (.slice D N dc) N o)) (hj : l[j]? = some (.own 3 (.slice Z nz zc) nz z)) (hk : l[k]? = some cF) (ha : l[a]? = some (.ints As ns s)) (hb : l[b]? = some (.ints Bd m d))
    (hne : i ≠ j ∧ i ≠ k ∧ i ≠ a ∧ i ≠ b) (hF : ∀ w', cF.holds w' w0.heap.size → Ints w' Af ns f) (hr : Sh.right s = true) (hz : Sh.right z = true) (hf : Near f) (hm : (m : Int) = Sh.size s) (hzs : nz = ns) (hl : Leads s f (Sh.strides z) N) :
    Calls Try.prog 35 #[.agg #[.slice Z nz zc, .slice D N dc], .agg #[.slice As ns cs, .slice Bd m dd], .slice Af ns cf] w fun e w' => e = .returned (.tuple #[]) ∧ Sep w0 w' (l.set i (.own 2 (.slice D N dc) N (layD o d s f z m))) := by
  obtain ⟨ne1, ne2, ne3, ne4⟩ := hne
  have hil : i < l.length := (List.getElem?_eq_some_iff.1 hi).1
  have KI := Lib.hid (show ∀ x : Chunk, (l.set i x)[i]? = some x from fun x => by rw [List.getElem?_set, if_pos rfl, if_pos hil])
  have KJ := Lib.hid (show ∀ x : Chunk, (l.set i x)[j]? = _ from fun x => (List.getElem?_set_ne ne1).trans hj)
  have KK := Lib.hid (show ∀ x : Chunk, (l.set i x)[k]? = _ from fun x => (List.getElem?_set_ne ne2).trans hk)
  have KA := Lib.hid (show ∀ x : Chunk, (l.set i x)[a]? = _ from fun x => (List.getElem?_set_ne ne3).trans ha)
  have KB := Lib.hid (show ∀ x : Chunk, (l.set i x)[b]? = _ from fun x => (List.getElem?_set_ne ne4).trans hb)
  have h1 : Sep w0 w (l.set i (.own 2 (.slice D N dc) N (layD o d s f z 0))) := by rw [show layD o d s f z 0 = o from rfl, set_eq hi]; exact H0
  have hO := h1.ownS i (KI.out _)
  have hole := hO.2.2
  have HLO := Lib.hid (show o.length = N from hO.len)
  have hT := h1.oldInts b (KB.out _)
  have hmle := hT.le
  have HLD := Lib.hid hT.len
  have hsl := (h1.oldInts a (KA.out _)).len
  have hns : ns ≤ 4 := by have := (Sh.right_iff.1 hr).1; omega
  have hm4 : m ≤ 4096 := by have := (Sh.size_bd s).2; omega
  have HR := Lib.hid hr
  have HZ := Lib.hid hz
  have HNF := Lib.hid hf
  have HM := Lib.hid hm
  have HL := Lib.hid hl
  have HFF := Lib.hid hF
  have HSTD := Lib.hid (show Steps (Sh.strides z) from Sh.strides_bd hz)
  clear hr hz hf hm hl hF hO hT hsl hi hj hk ha hb ne1 ne2 ne3 ne4 hil H0
  subst hzs
  have h2 := (h1.allocBox w.heap.size 25 [.slice Z nz zc, .slice D N dc] rfl).allocBox (w.heap.size + 1) 25 [.slice As nz cs, .slice Bd m dd] (by simp)
  clear h1
  go_enter Try.func35, Try.ntmps35
  go_upto_region 1 with fail
  generalize (w.alloc (.cells #[.slice Z nz zc, .slice D N dc] 25)).alloc (.cells #[.slice As nz cs, .slice Bd m dd] 25) = w2 at *
  have H := Lib.hid h2
  clear h2
  have q0 := H.out.cell 0 0 rfl rfl
  have q1 := H.out.cell 1 0 rfl rfl
  have C1 := Lib.hid (strides_mine (w := w2.drew) (c := zc) (H.out.drew.ownInts (j + 2) (KJ.out _)).2.2 HZ.out)
  go_region_held3 (fun w' => w'.cell? ⟨w.heap.size + 1, 0, none⟩ = some (.slice As nz cs) ∧ w'.cell? ⟨w.heap.size, 0, none⟩ = some (.slice Z nz zc)) (go_keep)
    (first | (go_at_call 30; refine C1.out.mono ?_; rintro e5 w5 ⟨⟨v5, n5, rfl, hO5⟩, hb5⟩; obtain ⟨A5, c5, rfl, hc5, _, _⟩ := hO5.form; have hn5 : n5 = nz := (by have := hO5.len; rw [Sh.strides_length] at this; have := (H.out.ownInts (j + 2) (KJ.out _)).2.2.len; omega); subst hn5; have H5 := Lib.hid (H.out.drew.addOwn hb5 hO5); have m0 := H5.out.cell 1 0 rfl rfl; have m1 := H5.out.cell 2 0 rfl rfl; clear hO5 hb5) | (go_at_call 47; refine (path_any (H5.out.oldInts (a + 3) (KA.out _)) (HFF.out _ (H5.out.at_ (k + 3) (KK.out _))) (H5.out.ownInts 0 rfl).2.2 HR.out HNF.out HSTD.out).mono ?_; rintro e6 w6 ⟨⟨v6, n6, rfl, hO6⟩, hb6⟩; obtain ⟨A6, c6, rfl, hc6, _, _⟩ := hO6.form; have H6 := Lib.hid (H5.out.addOwn hb6 hO6); have HO6 := Lib.hid hO6.len; have k0 := H6.out.cell 2 0 rfl rfl; have k1 := H6.out.cell 3 0 rfl rfl; clear hO6 hb6))
  clear q0 q1 m0 m1 k0 k1 H5 C1 H
  have hn6 : n6 = m := by have := HO6.out; rw [pathL, gen_length] at this; have := HM.out; omega
  subst hn6
  go_wp2
  go_loopw [16] (fun kv wr => ∃ q : Nat, kv = .int .i64 q ∧ q ≤ n6 ∧ Sep w0 wr (.own 3 (.slice A6 n6 c6) n6 (pathL s f (Sh.strides z)) :: .box (w.heap.size + 1) 25 [.slice As n5 cs, .slice Bd n6 dd] :: .box w.heap.size 25 [.slice Z n5 zc, .slice D N dc] :: l.set i (.own 2 (.slice D N dc) N (layD o d s f z q)))) (fun kv _ => n6 - (intOf kv).toNat)
  case atStart => exact ⟨0, rfl, by omega, H6.out.less1⟩
  case round =>
    clear H6
    obtain ⟨q, rfl, hq, hS⟩ := hrel
    by_cases hlq : q < n6
    · obtain ⟨hp0, hp1⟩ := HL.out q (by have := HM.out; omega)
      obtain ⟨K, hK⟩ := Int.eq_ofNat_of_zero_le hp0
      rw [hK] at hp1
      have hKN : K < N := by omega
      obtain ⟨la, x, hlA, _, hx, hcx, hfx⟩ := ((hS.ownInts 0 rfl).2.2).at_ (k := q) hlq
      subst hlA
      have hxK : x = K := by rw [pathL, gen_at (by have := HM.out; omega)] at hx; injection hx with hx; rw [← hx, hK]
      subst hxK
      obtain ⟨da, y, hdA, _, hy, hcy, hfy⟩ := (hS.oldInts (b + 3) (KB.out _)).at_ (k := q) hlq
      subst hdA
      obtain ⟨gb, cb, hv, hO⟩ := (hS.ownS (i + 3) (KI.out _)).own (by omega)
      injection hv with hv1 _ hv3
      subst hv1
      subst hv3
      obtain ⟨u, hu⟩ := getElem_of (l := layD o d s f z q) (k := K) (by rw [layD_length]; have := HLO.out; omega)
      have hcd := hO.cell hu
      have hfd := hO.frozen K
      have hS2 := hS.store (i + 3) K hfy (KI.out _)
      have hst := layD_step (o := o) (s := s) (f := f) (z := z) hy
      rw [hK, Int.toNat_natCast] at hst
      rw [hst] at hS2
      have HS2 := Lib.hid (hS2.recast (show _ = (.own 3 (.slice (some la) n6 c6) n6 (pathL s f (Sh.strides z)) :: .box (w.heap.size + 1) 25 [.slice As n5 cs, .slice (some da) n6 dd] :: .box w.heap.size 25 [.slice Z n5 zc, .slice (some ⟨gb, 0, none⟩) N dc] :: l.set i (.own 2 (.slice (some ⟨gb, 0, none⟩) N dc) N (layD o d s f z (q + 1)))) by
        simp only [List.set_cons_succ, List.set_set]))
      have b1 := hS.cell 2 1 rfl rfl
      have t1 := hS.cell 1 1 rfl rfl
      clear hS hS2 hst hO hx hy hK hp0 hfx hfy hu
      go_upto_region 4 with fail
      go_still_tail 9, (by kernel_rfl)
      change wpList _ _ _ _ _ wr.drew
      have hcd1 : wr.drew.cell? ⟨gb, K, none⟩ = some (.int .i64 u) := hcd
      have hfd1 : wr.drew.frozen? ⟨gb, K, none⟩ = false := hfd
      go_wp2
      go_roundw
      case rel => exact ⟨q + 1, by go_num, by omega, HS2.out.drew⟩
      case measure => simp [intOf]; omega
    · have hqm : n6 = q := by omega
      subst hqm
      have H := Lib.hid hS
      clear hS
      go_wp2
      go_end0
      exact ⟨rfl, H.out.tail_.tail_.tail_⟩
end Go.Proofs.Ythgpiimagbcmbaa
