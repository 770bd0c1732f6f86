import Derived.Deep.RegionHeld3
import Derived.Test.YtjblengklgkgfaaGreatPab
set_option maxRecDepth 100000
set_option maxHeartbeats 12800000
namespace Go.Proofs.YtjblengklgkgfaaGreat
open Go.RowKit Go.Proofs.Tryz
variable {A:Option Addr} {R:Ending→World→Prop} {a:Act} {c g n:Nat} {d s:List Int} {e t:TypeId} {u v x y:Value} {w:World}
theorem Tryz.infoI64:(prog.info? 2).map (fun i=>(i.zero,i.size,i.bytes))=some (some (.int .i64 0),1,8):=by kernel_rfl
def Ten (w:World) (v:Value) (s d:List Int):Prop :=
 ∃(A:Option Addr) (n c:Nat) (B:Option Addr) (m e:Nat),v=.agg #[.slice A n c,.slice B m e]∧n≤c∧m≤e∧Ints w A n s∧Ints w B m d
def OTen (w:World) (base:Nat) (v:Value) (s d:List Int):Prop :=
 ∃(vs vd:Value) (n m:Nat),v=.agg #[vs,vd]∧OwnS w base 3 vs n s∧OwnS w base 2 vd m d
section
variable {w w' : World} {base : Nat} {v : Value} {s d : List Int}
theorem Ten.below (h:Ten w v s d)(hb:Below w.heap.size w w'):Ten w' v s d:=by
 obtain⟨A,n,c,B,m,e,rfl,h1,h2,h3,h4⟩:=h;exact⟨A,n,c,B,m,e,rfl,h1,h2,h3.below hb,h4.below hb⟩
theorem OTen.below (h:OTen w base v s d)(hb:Below w.heap.size w w'):OTen w' base v s d:=by
 obtain⟨vs,vd,n,m,rfl,h1,h2⟩:=h;exact⟨vs,vd,n,m,rfl,h1.below hb,h2.below hb⟩
theorem OTen.ten (h:OTen w base v s d):Ten w v s d:=by
 obtain⟨vs,vd,n,m,rfl,h1,h2⟩:=h;obtain⟨A,c,rfl,hc,hI,_⟩:=h1.form;obtain⟨B,e,rfl,he,hJ,_⟩:=h2.form;exact⟨A,n,c,B,m,e,rfl,hc,he,hI,hJ⟩
end
theorem Tryz.sizeTen:(prog.info? 33).map (·.size)=some 2:=by kernel_rfl
theorem b9r {fn:Func}{p:Tmp}(g:Nat)(x y:Value)(h:fn.results=#[.cell p 33])(hp:a.tmps.getD p undef=.pointer (some ⟨g,0,none⟩))
  (hg:w.heap[g]?=some (.cells #[x,y] 33 (0,0)))(hd:a.defers=[])(hR:R (.returned (.agg #[x,y])) w):bodyPost prog fn R .ret a w :=
 bodyPost_ret_by (results_cell_row h a.tmps w g _ _ _ _ hp hg underlying33 rfl Tryz.sizeTen) hd hR
theorem a1g {a b:Value}(h:w.heap[g]?=some (.cells #[a,b] t (0,0)))(x y:Value):
  ((w.setCell ⟨g,0,none⟩ x).setCell ⟨g,1,none⟩ y).heap[g]?=some (.cells #[x,y] t (0,0)) :=
 heap_setCell_same _ g 1 _ _ y (heap_setCell_same w g 0 _ _ x h)
theorem a2d (x:Int)(h:Ints w A n s)(hn:n≤17592186044000)(hx:Fits x):
  Calls prog 11 #[.slice A n c,.int .i64 x] w fun e w'=>(∃ v,e=.returned v∧OTen w' w.heap.size v s (List.replicate (Sh.size s).toNat x))∧Below w.heap.size w w':=by
 have hZ:Below w.heap.size w (w.alloc (.cells #[.slice none 0 0,.slice none 0 0] 33)):=(Below.refl _ _).alloc (Nat.le_refl _) _;have hzs:(w.alloc (.cells #[.slice none 0 0,.slice none 0 0] 33)).heap.size=w.heap.size+1:=by simp
 have hzb:=heap_alloc_new w (.cells #[.slice none 0 0,.slice none 0 0] 33)
 go_enter func11,ntmps11
 go_upto_region 1 with fail
 generalize w.alloc (.cells #[.slice none 0 0,.slice none 0 0] 33)=wz at *;have hI:=h.below hZ;have E1:=hI.alloc (.cells #[] 3);have E2:=c4g wz 3 (Nat.le_refl _);have HZS:=Hd hzs;have HZB:=Hd hzb;have HZ:=Hd hZ;clear hzb hZ hI hzs
 go_wp2_with (at_builtin;refine a6b rfl (.tmp 7) (.tmp 8) 22 3 rfl underlying22 Tryz.infoInt wz.heap.size (.slice (some ⟨wz.heap.size,0,none⟩) 0 0) 0 [] rfl E2 ?c1 A n c s rfl E1 ?c2 ?_)
 case c1=>simp
 case c2=>omega
 intro v1 w1 hO1 hg1 hat1;clear hat1;obtain⟨A1,k1,rfl,hk1,_,_⟩:=hO1.form;have hB1:Below w.heap.size w w1:=HZ.trans (((Below.refl wz.heap.size wz).alloc (Nat.le_refl _) _ |>.grown hg1 (by simp) E2.block).mono (by rw[HZS.out];omega));have hz1:=(((Below.refl wz.heap.size wz).alloc (Nat.le_refl _) _ |>.grown hg1 (by simp) E2.block).block w.heap.size (by rw[HZS.out];omega)).trans HZB
 have hs1:w.heap.size<w1.heap.size:=by
  have:=((Below.refl wz.heap.size wz).alloc (Nat.le_refl _) (.cells #[] 3) |>.grown hg1 (by simp) E2.block).size;rw[HZS.out] at this;omega
 obtain⟨hsz0,hsz1⟩:=Sh.size_bd s;obtain⟨N,hN⟩:=eZ hsz0;have HN:=Hd hN;have HB1:=Hd hB1;have HZ1:=Hd hz1;have HO1:=Hd hO1;rw[hN] at hsz1;have hg:=heap_alloc_new w1 (.cells #[.slice A1 n k1,.slice none 0 0] 33);have hB2:=(Below.refl w1.heap.size w1).alloc (Nat.le_refl _) (.cells #[.slice A1 n k1,.slice none 0 0] 33);clear hN hsz0 hB1 hz1 hO1 E1 E2 hg1
 go_wp2_with fail
 go_loopw [6] (fun kv wr=>∃(k:Nat) (B:Option Addr) (e:Nat),kv=.int .i64 k∧k≤N∧wr.heap[w1.heap.size]?=some (.cells #[.slice A1 n k1,.slice B k e] 33 (0,0))∧OwnS wr (w1.heap.size+1) 2 (.slice B k e) k (List.replicate k x)∧Below w1.heap.size w1 wr) (fun kv _=>N - (intOf kv).toNat)
 case atStart=>exact⟨0,none,0,rfl,by omega,hg,OwnS.nil_ _ _ _,hB2⟩
 case round =>
  clear hg hB2;obtain⟨k,B,e,rfl,hk,hg,hO,hB2⟩:=hrel;have hI:=(h.below HB1).below hB2;have hc0:wr.cell? ⟨w1.heap.size,0,none⟩=some (.slice A1 n k1):=by rw[cell_of_row _ _ 0 _ _ _ hg];rfl
  have hc1:wr.cell? ⟨w1.heap.size,1,none⟩=some (.slice B k e):=by rw[cell_of_row _ _ 1 _ _ _ hg];rfl
  have hf0:=frozen_of_row _ _ 0 _ _ hg;have hf1:=frozen_of_row _ _ 1 _ _ hg;have hgl:w1.heap.size<wr.heap.size:=block_lt_of_cell hc0;have HG:=Hd hg;have HO:=Hd hO;have HB2:=Hd hB2;clear hg hO hB2;by_cases hlt:k<N
  ·go_wp2_with fail
   refine(a2z hI).mono ?_;rw[HN.out];rintro e w' ⟨rfl,rfl⟩
   go_wp2_with (at_builtin;refine a3f rfl _ _ 31 2 rfl underlying31 Tryz.infoI64 (w1.heap.size+1) _ k _ rfl HO.out ?c1 x hx _ rfl ?c3 ?_)
   case c1=>omega
   case c3=>omega
   intro v' w3 hO3 hB3 hg3;obtain⟨B', e', rfl,he', _,_⟩:=hO3.form;have hg3' : w3.heap[w1.heap.size]?=some (.cells #[.slice A1 n k1,.slice B k e] 33 (0,0)):=(hB3.block _ (by omega)).trans HG;have hc3:w3.cell? ⟨w1.heap.size,1,none⟩=some (.slice B k e):=by rw[cell_of_row _ _ 1 _ _ _ hg3'];rfl
   have hf3:=frozen_of_row _ _ 1 _ _ hg3';have hg4:=Hd (heap_setCell_same w3 w1.heap.size 1 _ _ (.slice B' (k+1) e') hg3');have hO4:=Hd (hO3.grown (a0h w3 w1.heap.size 1 (.slice B' (k+1) e')) (by omega));have hB4:=Hd ((HB2.trans (hB3.mono (by omega))).setCell (p:=⟨w1.heap.size,1,none⟩) (Nat.le_refl _) (.slice B' (k+1) e'));clear hg3' hO3 hB3 hg3 hI hc0 hc1 hf0 hf1;go_wp2;go_roundw
   case rel=>exact⟨k+1,B', e', by go_num,by omega,hg4,by rw[List.replicate_succ'];exact hO4,hB4⟩
   case measure=>simp[intOf];omega
  ·have hz2:wr.heap[w.heap.size]?=some (.cells #[.slice none 0 0,.slice none 0 0] 33 (0,0)):=(HB2.block _ hs1).trans HZ1;have hd0:wr.cell? ⟨w.heap.size,0,none⟩=some (.slice none 0 0):=by rw[cell_of_row _ _ 0 _ _ _ hz2];rfl
   have hd1:wr.cell? ⟨w.heap.size,1,none⟩=some (.slice none 0 0):=by rw[cell_of_row _ _ 1 _ _ _ hz2];rfl
   have hf2:=frozen_of_row _ _ 0 _ _ hz2;have hf3:=frozen_of_row _ _ 1 _ _ hz2;have HZ2:=Hd hz2;clear hz2
   go_wp2_with fail
   refine(a2z hI).mono ?_;rw[HN.out];rintro e w' ⟨rfl,rfl⟩;go_wp2;refine b9r w.heap.size _ _ results11 rfl (a1g HZ2 _ _) rfl ?_;have hk' : k=N:=by omega
   have hrep:(Sh.size s).toNat=k:=by rw[HN.out];simp[hk']
   rw[hrep];have hgr:=a1b (a0h wr w.heap.size 0 (.slice A1 n k1)) (a0h _ w.heap.size 1 (.slice B k e))
   have hO1' : OwnS wr (w.heap.size+1) 3 (.slice A1 n k1) n s:=by
    have:=HO1.below HB2;rw[HZS.out] at this;exact this
   exact⟨⟨_,rfl,_,_,n,k,rfl,(hO1'.grown hgr (by omega)).mono (by omega),(HO.grown hgr (by omega)).mono (by omega)⟩,
    ((HB1.trans (HB2.mono (by omega))).setCell (Nat.le_refl _) _).setCell (Nat.le_refl _) _⟩
def a0a (s d:List Int):Bool:=Sh.right s&&decide ((d.length:Int)=Sh.size s)
theorem a2a (h:Ten w v s d):
  Calls prog 50 #[v] w fun e w'=>e=.returned (.bool (a0a s d))∧Below w.heap.size w w':=by
 obtain⟨A,n,c,B,m,e,rfl,hnc,hme,hI,hJ⟩:=h;have hB:=(Below.refl w.heap.size w).alloc (Nat.le_refl _) (.cells #[.slice A n c,.slice B m e] 33);have hI2:=hI.alloc (.cells #[.slice A n c,.slice B m e] 33);have hm:=hJ.len;have hme':=hJ.le
 cases hr:Sh.right s with
 | false =>
  have HX:=Hd (p:=a0a s d=false) (by simp[a0a,hr]);have c1:=fun k=>(a1c (c:=c) (hI2.drewN k))
  rw[hr] at c1;have HM:=Hd hm;have HR:=Hd hr;have C1:=Hd c1;clear hm hr c1
  go_enter func50,ntmps50
  go_wp2
  go_quiet ((go_at_call 46;exact a3b (C1 _)))
  go_wp2;go_ret
  exact⟨a0b HX.symm,a0w hB _⟩
 | true =>
  have HX:=Hd (p:=a0a s d=decide ((m:Int)=Sh.size s)) (by simp[a0a,hr,hm]);have c1:=fun k=>(a1c (c:=c) (hI2.drewN k))
  rw[hr] at c1;have HM:=Hd hm;have HR:=Hd hr;have C1:=Hd c1;clear hm hr c1;by_cases he:(m:Int)=Sh.size s
  ·have he' : ((m:Int)==Sh.size s)=true:=by simpa using he
   have HE:=Hd he;clear he
   go_enter func50,ntmps50
   go_wp2
   go_quiet ((first|(go_at_call 46;exact a3b (C1 _))|(go_at_call 24;exact a3b (a2z (hI2.drewN _)))))
   go_wp2;go_ret;exact⟨a0b (by rw[HX.out];simp[HE.out]),a0w hB _⟩
  ·have he' : ((m:Int)==Sh.size s)=false:=by simpa using he
   have HE:=Hd he;clear he
   go_enter func50,ntmps50
   go_wp2
   go_quiet ((first|(go_at_call 46;exact a3b (C1 _))|(go_at_call 24;exact a3b (a2z (hI2.drewN _)))))
   go_wp2;go_ret;exact⟨a0b (by rw[HX.out];simp[HE.out]),a0w hB _⟩
theorem c6r {t k:List Int}(h:Ten w v s d)(g:Ten w u t k):
  Calls prog 17 #[v,u] w fun e w'=>e=.returned (.bool (s==t&&d==k))∧Below w.heap.size w w':=by
 obtain⟨A,n,c,B,m,e,rfl,hnc,hme,hI,hJ⟩:=h;obtain⟨A', n', c', B', m', e', rfl,hnc', hme', hI', hJ'⟩:=g;have hb:=((Below.refl w.heap.size w).alloc (Nat.le_refl _) (.cells #[.slice A n c,.slice B m e] 33)).alloc (by simp) (.cells #[.slice A' n' c', .slice B' m' e'] 33);have g0:=heap_alloc2_old w (.cells #[.slice A n c,.slice B m e] 33) (.cells #[.slice A' n' c', .slice B' m' e'] 33);have g1:=heap_alloc2_new w (.cells #[.slice A n c,.slice B m e] 33) (.cells #[.slice A' n' c', .slice B' m' e'] 33);have hm:=hJ.len;have hm':=hJ'.len;have hle:=hJ.le;have hle':=hJ'.le;have HM:=Hd hm;have HM':=Hd hm';clear hm hm'
 go_enter func17,ntmps17
 go_upto_region 1 with fail
 generalize (w.alloc (.cells #[.slice A n c,.slice B m e] 33)).alloc (.cells #[.slice A' n' c', .slice B' m' e'] 33)=W at *;have a0:W.cell? ⟨w.heap.size,0,none⟩=some (.slice A n c):=by rw[cell_of_row _ _ 0 _ _ _ g0];rfl
 have a1:W.cell? ⟨w.heap.size,1,none⟩=some (.slice B m e):=by rw[cell_of_row _ _ 1 _ _ _ g0];rfl
 have b0:W.cell? ⟨w.heap.size+1,0,none⟩=some (.slice A' n' c'):=by rw[cell_of_row _ _ 0 _ _ _ g1];rfl
 have b1:W.cell? ⟨w.heap.size+1,1,none⟩=some (.slice B' m' e'):=by rw[cell_of_row _ _ 1 _ _ _ g1];rfl
 have HB:=Hd hb;have hJ:=hJ.below hb;have hJ':=hJ'.below hb;have hI:=hI.below hb;have hI':=hI'.below hb;clear hb g0 g1
 go_wp2_with fail
 refine(a5b hI hI').mono ?_;rintro e2 w' ⟨rfl,q0,rfl⟩
 cases hs:(s==t) with
 | false =>
  have HS:=Hd hs;clear hs;go_wp2;go_ret
  exact⟨a0b (by rw[HS.out];rfl),a0w HB _⟩
 | true =>
  have HS:=Hd hs;clear hs;by_cases hmm:m=m'
  ·subst hmm
   go_wp2_with fail
   go_loopw [5] (fun kv wr=>∃ j:Nat,j≤m∧kv=.int .i64 j∧d.take j=k.take j∧∃ q,wr=W.drewN q) (fun kv _=>m-(intOf kv).toNat)
   case atStart=>exact⟨0,Nat.zero_le _,rfl,rfl,q0,rfl⟩
   case round =>
    obtain⟨j,hj,rfl,hd,q,rfl⟩:=hrel;have HD:=Hd hd;clear hd;by_cases hlt:j<m
    ·obtain⟨ad,x,rfl,hb1,hx,hc1,hf⟩:=hJ.at_ hlt;obtain⟨bd,y,rfl,hb2,hy,hc2,hf'⟩:=hJ'.at_ hlt;have H:=Hd hx;clear hx;have G:=Hd hy;clear hy;by_cases hxy:x=y
     ·subst hxy;go_wp2
      go_quiet (fail)
      go_wp2;go_roundw
      case rel=>exact⟨j+1,by omega,by go_num,b7o H G HD,_,rfl⟩
      case measure=>simp[intOf];omega
     ·have HX:=Hd (c3e H G hxy);have hb:(x != y)=true:=by simpa using hxy
      go_wp2
      go_quiet (fail)
      go_wp2;go_ret;exact⟨a0b (by rw[HX.out];simp),a0w (a0w HB _) _⟩
    ·have HX:=Hd (b5v HM HM' (by omega) HD);go_wp2;go_ret;exact⟨a0b (by rw[HX.out,HS.out];rfl),a0w HB _⟩
  ·have HX:=Hd (p:=(d==k)=false) (by rw[beq_eq_false_iff_ne];rintro rfl;exact hmm (HM.symm.trans HM'));have hb:((m:Int) != (m' : Int))=true:=by simp;omega
   go_wp2;go_ret;exact⟨a0b (by rw[HX.out];simp),a0w HB _⟩
theorem b2d:(3:TypeId)≠2∧(3:TypeId)≠33∧(2:TypeId)≠33∧(52:TypeId)≠2:=by decide
theorem c0p (hT:Tape w g)(h:Ints w A n s)(hn:n≤17592186044000):
  Calls prog 27 #[.pointer (some ⟨g,0,none⟩),.slice A n c] w fun e w' =>
   (∃ v d,e=.returned v∧OTen w' w.heap.size v s d∧d.length=(Sh.size s).toNat)∧Read w g w':=by
 have hgl:=hT.lt;have hZ:=(Below.refl w.heap.size w).alloc (Nat.le_refl _) (.cells #[.slice none 0 0,.slice none 0 0] 33);have hzb:=heap_alloc_new w (.cells #[.slice none 0 0,.slice none 0 0] 33);have hzs:(w.alloc (.cells #[.slice none 0 0,.slice none 0 0] 33)).heap.size=w.heap.size+1:=by simp
 go_enter func27,ntmps27
 go_wp2_with fail
 generalize w.alloc (.cells #[.slice none 0 0,.slice none 0 0] 33)=wz at *;refine(a2d 0 (h.below hZ) hn ⟨by omega,by omega⟩).mono ?_;rintro e w1 ⟨⟨v,rfl,vs,vd,ns,N,rfl,hOs,hOd⟩,hb1⟩;have hNN:=hOd.len;rw[List.length_replicate] at hNN;subst hNN;generalize hNs:(Sh.size s).toNat=N at *;have HNS:=Hd hNs;clear hNs;obtain⟨A1,k1,rfl,hk1,_,_⟩:=hOs.form;obtain⟨B,k2,rfl,hk2,_,_⟩:=hOd.form;have hB1:=hZ.trans (hb1.mono (by omega));have hz1:=(hb1.block w.heap.size (by omega)).trans hzb;have hs1:w.heap.size<w1.heap.size:=by have:=hb1.size;omega
 rw[hzs] at hOs hOd;have hT1:=hT.below hB1;have hgx:=heap_alloc_new w1 (.cells #[.slice A1 ns k1,.slice B N k2] 33);have hb2:=(Below.refl w1.heap.size w1).alloc (Nat.le_refl _) (.cells #[.slice A1 ns k1,.slice B N k2] 33);have HZ1:=Hd hz1;have HB1:=Hd hB1;have hNle:N≤9223372036854775807:=hOd.2.2;have HI:=Hd hOs.len;clear hz1 hB1 hzb hZ hzs hb1;have hz2:=(hb2.block _ hs1).trans HZ1;have hOs2:=hOs.below hb2;have hOd2:=hOd.below hb2;have hR2:Read w g (w1.alloc (.cells #[.slice A1 ns k1,.slice B N k2] 33)):=⟨hT1.below hb2,a3c (HB1.trans (hb2.mono (by omega))) _⟩;clear hb2 hOs hOd hT1 hT
 go_wp2_with fail
 generalize w1.alloc (.cells #[.slice A1 ns k1,.slice B N k2] 33)=w2 at *
 go_loopw [12] (fun kv wr=>∃(j:Nat) (d:List Int),kv=.int .i64 j∧j≤N∧wr.heap[w1.heap.size]?=some (.cells #[.slice A1 ns k1,.slice B N k2] 33 (0,0))∧wr.heap[w.heap.size]?=some (.cells #[.slice none 0 0,.slice none 0 0] 33 (0,0))∧OwnS wr (w.heap.size+1) 3 (.slice A1 ns k1) ns s∧OwnS wr (w.heap.size+1) 2 (.slice B N k2) N d∧Read w g wr) (fun kv _=>N - (intOf kv).toNat)
 case atStart=>exact⟨0,_,rfl,by omega,hgx,hz2,hOs2,hOd2,hR2⟩
 case round =>
  clear hgx hz2 hOs2 hOd2 hR2;obtain⟨j,d,rfl,hj,hgx,hz2,hOs,hOd,hT,hG⟩:=hrel;have hdl:=hOd.len;by_cases hlt:j<N
  ·obtain⟨gb,cb,hv,hO⟩:=hOd.own (by omega);injection hv with hv1 _ hv3
   subst hv1;subst hv3;have hgb:=hO.base_.1;have hcx:wr.cell? ⟨w1.heap.size,1,none⟩=some (.slice (some ⟨gb,0,none⟩) N k2):=by rw[cell_of_row _ _ 1 _ _ _ hgx];rfl
   have hxl:w1.heap.size<wr.heap.size:=block_lt_of_cell hcx;have hgr:=hG.size;have hTd:Tape wr.drew g:=hT;have HG:=Hd hG;have HX:=Hd hgx;have HZ:=Hd hz2;have HS:=Hd hOs;have HD:=Hd hOd;have HL:=Hd hdl;obtain⟨dj,hdj0⟩:∃ x,d[j]?=some x:=gE (by omega:j<d.length);have hdj:=Hd hdj0;clear hdj0;clear hG hgx hz2 hOs hOd hT hO hdl
   go_wp2_with fail
   go_region_held3 (fun w'=>w'.cell? ⟨w1.heap.size,1,none⟩=some (.slice (some ⟨gb,0,none⟩) N k2)) (go_keep)
    (first|(go_at_call 42;refine(d2d hTd).mono ?_;rintro e w3 ⟨⟨r,rfl,hf⟩,hT3,hG3⟩;have hc3:w3.cell? ⟨w1.heap.size,1,none⟩=some (.slice (some ⟨gb,0,none⟩) N k2):=hG3.cell hcx (by intro h';injection h' with h';simp at h';omega);have hO3:Own w3 (w.heap.size+1) 2 gb N k2 d:=HD.drew.grown hG3 (by omega);have hcs:=hO3.cell hdj;have hfs:=hO3.frozen j;have hne:=b6k hO3 ((hG3.block _ hxl (by intro h';injection h' with h';omega)).trans HX) b2d.2.2.1;have hc4:(w3.setCell ⟨gb,j,none⟩ (.int .i64 r)).cell? ⟨w1.heap.size,1,none⟩=some (.slice (some ⟨gb,0,none⟩) N k2):=(World.cell?_setCell_other w3 _ _ _ (by intro h';injection h' with h';exact hne h')).trans hc3))
   have HG3:=Hd (a1b HG (a1b (a4e wr 1 _) hG3));have hx3:w3.heap[w1.heap.size]?=some (.cells #[.slice A1 ns k1,.slice (some ⟨gb,0,none⟩) N k2] 33 (0,0)):=(hG3.block _ hxl (by intro h';injection h' with h';omega)).trans HX;have hz3:w3.heap[w.heap.size]?=some (.cells #[.slice none 0 0,.slice none 0 0] 33 (0,0)):=(hG3.block _ (by simp;omega) (by intro h';injection h' with h';omega)).trans HZ;have hS3:OwnS w3 (w.heap.size+1) 3 (.slice A1 ns k1) ns s:=HS.drew.grown hG3 (by omega);obtain⟨cs3,hb3⟩:=hO3.blk;have hgw:=a0h w3 gb j (.int .i64 r);have hx4:=Hd ((hgw.block _ (block_lt_of_cell hc3) (fun h'=>a4d hx3 hb3 b2d.2.2.1.symm (by injection h'))).trans hx3);have hz4:=Hd ((hgw.block w.heap.size (by have:wr.heap.size≤w3.heap.size:=hG3.size;omega) (fun h'=>a4d hz3 hb3 b2d.2.2.1.symm (by injection h'))).trans hz3);have hS4:=Hd (hS3.grownNe hgw (hS3.apart hb3 b2d.1));have hO4:=Hd (hO3.store j hf);have hT4:=Hd (hT3.over (w':=w3.setCell ⟨gb,j,none⟩ (.int .i64 r)) ((Below.refl _ _).setCell (p:=⟨gb,j,none⟩) (by show g+1≤gb;omega) _));have hG4:=Hd (c0x HG3 ((Below.refl w.heap.size w3).setCell (p:=⟨gb,j,none⟩) (by show w.heap.size≤gb;omega) (.int .i64 r)));clear hx3 hz3 hS3 hb3 hgw hG3 hcs hfs hO3 hT3 hc3 hc4 hne hcx hTd;go_wp2;go_roundw
   case rel=>exact⟨j+1,_,by go_num,by omega,hx4,hz4,hS4,hO4,hT4,hG4⟩
   case measure=>simp[intOf];omega
  ·have hcx:wr.cell? ⟨w1.heap.size,1,none⟩=some (.slice B N k2):=by rw[cell_of_row _ _ 1 _ _ _ hgx];rfl
   have hcy:wr.cell? ⟨w1.heap.size,0,none⟩=some (.slice A1 ns k1):=by rw[cell_of_row _ _ 0 _ _ _ hgx];rfl
   have hd0:wr.cell? ⟨w.heap.size,0,none⟩=some (.slice none 0 0):=by rw[cell_of_row _ _ 0 _ _ _ hz2];rfl
   have hd1:wr.cell? ⟨w.heap.size,1,none⟩=some (.slice none 0 0):=by rw[cell_of_row _ _ 1 _ _ _ hz2];rfl
   have hf2:=frozen_of_row _ _ 0 _ _ hz2;have hf3:=frozen_of_row _ _ 1 _ _ hz2;have HZ2:=Hd hz2;have HG:=Hd hG;have HL:=Hd hdl;clear hz2 hgx hG hdl;go_wp2;refine b9r w.heap.size _ _ results27 rfl (a1g HZ2 _ _) rfl ?_;have hb:=((Below.refl w.heap.size wr).setCell (p:=⟨w.heap.size,0,none⟩) (Nat.le_refl _) (.slice A1 ns k1)).setCell (p:=⟨w.heap.size,1,none⟩) (Nat.le_refl _) (.slice B N k2);have hgr:=a1b (a0h wr w.heap.size 0 (.slice A1 ns k1)) (a0h _ w.heap.size 1 (.slice B N k2));exact⟨⟨_,d,rfl,⟨_,_,ns,N,rfl,(hOs.grown hgr (by omega)).mono (by omega),(hOd.grown hgr (by omega)).mono (by omega)⟩,HL.trans HNS.symm⟩,hT.over (hb.mono (by omega)),c0x HG hb⟩
theorem c6o (a:Nat)(h:Ints w A n s)(hr:Sh.right s=true)(ha:a<n):
  Calls prog 75 #[.slice A n c,.int .i64 a] w fun e w' =>
   (∃ v,e=.returned v∧OTen w' w.heap.size v s (Sh.iota s a))∧Below w.heap.size w w':=by
 have hn4:n≤4:=by have:=(Sh.right_iff.1 hr).1;have:=h.len;omega
 have hZ:=(Below.refl w.heap.size w).alloc (Nat.le_refl _) (.cells #[.slice none 0 0,.slice none 0 0] 33);have hzb:=heap_alloc_new w (.cells #[.slice none 0 0,.slice none 0 0] 33);have hzs:(w.alloc (.cells #[.slice none 0 0,.slice none 0 0] 33)).heap.size=w.heap.size+1:=by simp
 go_enter func75,ntmps75
 go_wp2_with fail
 generalize w.alloc (.cells #[.slice none 0 0,.slice none 0 0] 33)=wz at *;refine(a2d 0 (h.below hZ) (by omega) ⟨by omega,by omega⟩).mono ?_;rintro e w1 ⟨⟨v,rfl,vs,vd,ns,N,rfl,hOs,hOd⟩,hb1⟩;have hNN:=hOd.len;rw[List.length_replicate] at hNN;subst hNN;obtain⟨hsz0,hsz1⟩:=Sh.size_bd s;have hcast:((Sh.size s).toNat:Int)=Sh.size s:=by omega
 generalize hNs:(Sh.size s).toNat=N at *;have HNS:=Hd hNs;have HC:=Hd hcast;have hN4:N≤4096:=by omega
 clear hNs hcast hsz0 hsz1;obtain⟨A1,k1,rfl,hk1,_,_⟩:=hOs.form;obtain⟨B,k2,rfl,hk2,_,_⟩:=hOd.form;have hB1:=hZ.trans (hb1.mono (by omega));have hz1:=(hb1.block w.heap.size (by omega)).trans hzb;have hs1:w.heap.size<w1.heap.size:=by have:=hb1.size;omega
 rw[hzs] at hOs hOd;have hgx:=heap_alloc_new w1 (.cells #[.slice A1 ns k1,.slice B N k2] 33);have hb2:=(Below.refl w1.heap.size w1).alloc (Nat.le_refl _) (.cells #[.slice A1 ns k1,.slice B N k2] 33);have HZ1:=Hd hz1;have HB1:=Hd hB1;have hz2:=(hb2.block _ hs1).trans HZ1;have hOs2:=hOs.below hb2;have hOd2:=hOd.below hb2;have hB2:=hB1.trans (hb2.mono (by omega));have HR:=Hd hr;have HU:=Hd (Upto.start (ys:=List.replicate N 0) (zs:=Sh.iota s a) (by rw[List.length_replicate,Sh.iota_length,HNS.out]));clear hz1 hB1 hzb hZ hzs hb1 hb2 hOs hOd hr
 go_wp2_with fail
 generalize w1.alloc (.cells #[.slice A1 ns k1,.slice B N k2] 33)=w2 at *
 go_loopw [6] (fun kv wr=>∃(j:Nat) (d:List Int),kv=.int .i64 j∧j≤N∧wr.heap[w1.heap.size]?=some (.cells #[.slice A1 ns k1,.slice B N k2] 33 (0,0))∧wr.heap[w.heap.size]?=some (.cells #[.slice none 0 0,.slice none 0 0] 33 (0,0))∧OwnS wr (w.heap.size+1) 3 (.slice A1 ns k1) ns s∧OwnS wr (w.heap.size+1) 2 (.slice B N k2) N d∧Upto j d (Sh.iota s a)∧Below w.heap.size w wr) (fun kv _=>N - (intOf kv).toNat)
 case atStart=>exact⟨0,_,rfl,by omega,hgx,hz2,hOs2,hOd2,HU,hB2⟩
 case round =>
  clear hgx hz2 hOs2 hOd2 hB2 HU;obtain⟨j,d,rfl,hj,hgx,hz2,hOs,hOd,hU,hB⟩:=hrel;have hdl:=hOd.len;have hcx:wr.cell? ⟨w1.heap.size,1,none⟩=some (.slice B N k2):=by rw[cell_of_row _ _ 1 _ _ _ hgx];rfl
  have hxl:w1.heap.size<wr.heap.size:=block_lt_of_cell hcx;by_cases hlt:j<N
  ·obtain⟨gb,cb,hv,hO⟩:=hOd.own (by omega);injection hv with hv1 _ hv3
   subst hv1;subst hv3;have hgb:=hO.base_.1;have hji:(j:Int)<Sh.size s:=by rw[←HC.out];omega
   have hpl:=Sh.placeOf_place (s:=s) (i:=j) (by omega) hji;have hia:=Sh.iota_at (a:=a) hji;have hI:=(h.below hB).drew;obtain⟨x,hx⟩:∃ x,s[a]?=some x:=gE (by rw[h.len];exact ha);have hpa:=Sh.place_at (i:=j) hx;have hgd:(Sh.place s j).getD a 0=j / Sh.pd (s.drop (a+1)) % x:=by rw[gD,hpa];rfl
   rw[hgd] at hia;have hU2:=Hd (hU.set_ hia);have HPL:=Hd hpl;have HPA:=Hd hpa;have HB:=Hd hB;have HX:=Hd hgx;have HZ:=Hd hz2;have HS:=Hd hOs;have HD:=Hd hOd;have HL:=Hd hdl;obtain⟨dj,hdj0⟩:∃ x,d[j]?=some x:=gE (by omega:j<d.length);have hdj:=Hd hdj0;have hax:a<(Sh.place s j).length:=by rw[Sh.place_length,h.len];exact ha
   have HAX:=Hd hax;clear hdj0 hB hgx hz2 hOs hOd hO hdl hU hpl hpa hia hgd hx hji hax
   go_wp2_with fail
   go_region_with (go_at_call 125;refine(c4z (j:Int) hI ⟨by omega,by omega⟩).mono ?_;rw[HPL.out];rintro e w3 ⟨⟨P,m,q,rfl,hq,hJ⟩,hb3⟩;have hc3:w3.cell? ⟨w1.heap.size,1,none⟩=some (.slice (some ⟨gb,0,none⟩) N k2):=(hb3.cell (p:=⟨w1.heap.size,1,none⟩) hxl).trans hcx;(obtain rfl:m=n:=by rw[←hJ.len,Sh.place_length,h.len]);obtain⟨pa,xx,rfl,_,hxx,hcp,hff⟩:=hJ.at_ (k:=a) ha;have HXX:=Hd hxx;clear hxx;have hO3:Own w3 (w.heap.size+1) 2 gb N k2 d:=HD.drew.below hb3;have hcs:=hO3.cell hdj;have hfs:=hO3.frozen j;have hne:=b6k hO3 ((hb3.block w1.heap.size hxl).trans HX) b2d.2.2.1;have hc4:(w3.setCell ⟨gb,j,none⟩ (.int .i64 xx)).cell? ⟨w1.heap.size,1,none⟩=some (.slice (some ⟨gb,0,none⟩) N k2):=(World.cell?_setCell_other w3 _ _ _ (by intro h';injection h' with h';exact hne h')).trans hc3)
   all_goals
    obtain rfl:xx=j / Sh.pd (s.drop (a+1)) % x:=by
     have:=HXX.out;rw[HPA.out] at this;injection this with this
     exact this.symm
    have hx3:=(hb3.block w1.heap.size hxl).trans HX;have hz3:=(hb3.block w.heap.size (by show w.heap.size<wr.heap.size;omega)).trans HZ;have hS3:OwnS w3 (w.heap.size+1) 3 (.slice A1 ns k1) ns s:=HS.drew.below hb3;obtain⟨cs3,hbk⟩:=hO3.blk;have hgw:=a0h w3 gb j (.int .i64 (j / Sh.pd (s.drop (a+1)) % x));have hwl:wr.heap.size≤w3.heap.size:=hb3.size;have hx4:=Hd ((hgw.block _ (by omega) (fun h'=>a4d hx3 hbk b2d.2.2.1.symm (by injection h'))).trans hx3);have hz4:=Hd ((hgw.block w.heap.size (by omega) (fun h'=>a4d hz3 hbk b2d.2.2.1.symm (by injection h'))).trans hz3);have hS4:=Hd (hS3.grownNe hgw (hS3.apart hbk b2d.1));have hO4:=Hd (hO3.store j hff);have hB4:=Hd (((HB.drew.trans (hb3.mono HB.size))).setCell (p:=⟨gb,j,none⟩) (by show w.heap.size≤gb;omega) (.int .i64 (j / Sh.pd (s.drop (a+1)) % x)));clear hx3 hz3 hS3 hbk hgw hcs hfs hO3 hc3 hc4 hne hcx hb3 hJ hcp;go_wp2;go_roundw
    case rel=>exact⟨j+1,_,by go_num,by omega,hx4,hz4,hS4,hO4,hU2,hB4⟩
    case measure=>simp[intOf];omega
  ·have hcy:wr.cell? ⟨w1.heap.size,0,none⟩=some (.slice A1 ns k1):=by rw[cell_of_row _ _ 0 _ _ _ hgx];rfl
   have hd0:wr.cell? ⟨w.heap.size,0,none⟩=some (.slice none 0 0):=by rw[cell_of_row _ _ 0 _ _ _ hz2];rfl
   have hd1:wr.cell? ⟨w.heap.size,1,none⟩=some (.slice none 0 0):=by rw[cell_of_row _ _ 1 _ _ _ hz2];rfl
   have hf2:=frozen_of_row _ _ 0 _ _ hz2;have hf3:=frozen_of_row _ _ 1 _ _ hz2;have HZ2:=Hd hz2;have HB:=Hd hB;obtain rfl:d=Sh.iota s a:=hU.all (by rw[Sh.iota_length,HNS.out];omega);clear hz2 hgx hB hdl hU;go_wp2;refine b9r w.heap.size _ _ results75 rfl (a1g HZ2 _ _) rfl ?_;have hb:=(HB.setCell (p:=⟨w.heap.size,0,none⟩) (Nat.le_refl _) (.slice A1 ns k1)).setCell (p:=⟨w.heap.size,1,none⟩) (Nat.le_refl _) (.slice B N k2);have hgr:=a1b (a0h wr w.heap.size 0 (.slice A1 ns k1)) (a0h _ w.heap.size 1 (.slice B N k2));exact⟨⟨_,rfl,_,_,ns,N,rfl,(hOs.grown hgr (by omega)).mono (by omega),(hOd.grown hgr (by omega)).mono (by omega)⟩,hb⟩
theorem b6b (h:Ten w v s d)(g:Ten w u s d):
  Calls prog 17 #[v,u] w fun e w'=>e=.returned (.bool true)∧Below w.heap.size w w' :=
 (c6r h g).mono fun _ _ ⟨he,hw⟩=>⟨by rw[he];simp,hw⟩
theorem a1t {w':World}{i:Nat}(hb:Below w.heap.size w w')(hc:w.cell? ⟨g,i,none⟩=some x):w'.cell? ⟨g,i,none⟩=some x :=
 (hb.cell (p:=⟨g,i,none⟩) (block_lt_of_cell hc)).trans hc
theorem a0q (h:w.heap[g]?=some (.cells #[x,y] t (0,0))):w.cell? ⟨g,0,none⟩=some x:=by rw[cell_of_row _ _ 0 _ _ _ h];rfl
theorem a0j (h:w.heap[g]?=some (.cells #[x,y] t (0,0))):w.cell? ⟨g,1,none⟩=some y:=by rw[cell_of_row _ _ 1 _ _ _ h];rfl
theorem a1s {B:Option Addr}{m e:Nat}(h:Ints w A n s)(hc:n≤c)(g:Ints w B m d)(he:m≤e):Ten w (.agg #[.slice A n c,.slice B m e]) s d :=
 ⟨A,n,c,B,m,e,rfl,hc,he,h,g⟩
theorem Tryz.sizeInt:(prog.info? 3).map (·.size)=some 1:=by kernel_rfl
theorem Tryz.sizeInt64:(prog.info? 2).map (·.size)=some 1:=by kernel_rfl
def a7u (s:List Int) (a:Int):Int:=if Sh.right s then(if 0≤a∧a<s.length then 0 else 1) else 13
theorem a2m {fn:Func}{p u:Tmp}(g:Nat)(x y z:Value)(h:fn.results=#[.cell p 33,.tmp u])(hp:a.tmps.getD p undef=.pointer (some ⟨g,0,none⟩))
  (hz:a.tmps.getD u undef=z)(hg:w.heap[g]?=some (.cells #[x,y] 33 (0,0)))(hd:a.defers=[])(hR:R (.returned (.tuple #[.agg #[x,y],z])) w):bodyPost prog fn R .ret a w:=by
 refine bodyPost_ret_by ?_ hd hR;have hp' : a.tmps[p]?.getD undef=.pointer (some ⟨g,0,none⟩):=by simpa using hp
 have hz' : a.tmps[u]?.getD undef=z:=by simpa using hz
 rw[results_cell_tmp h];simp[hp', hz', asAddr,run_loadVar_row w g _ 33 _ _ _ hg underlying33 rfl Tryz.sizeTen,Result.andThen]
theorem a2q (h:Ten w v s d):
  Calls prog 51 #[v] w fun e w'=>e=.returned (.bool (a0a s d))∧Below w.heap.size w w':=by
 obtain⟨A,n,c,B,m,e,rfl,hnc,hme,hI,hJ⟩:=h;have hB:=(Below.refl w.heap.size w).alloc (Nat.le_refl _) (.cells #[.slice A n c,.slice B m e] 33);have hI2:=hI.alloc (.cells #[.slice A n c,.slice B m e] 33);have hm:=hJ.len;have hme':=hJ.le
 cases hr:Sh.right s with
 | false =>
  have HX:=Hd (p:=a0a s d=false) (by simp[a0a,hr]);have c1:=fun k=>(a1w (c:=c) (hI2.drewN k))
  rw[hr] at c1;have HM:=Hd hm;have HR:=Hd hr;have C1:=Hd c1;clear hm hr c1
  go_enter func51,ntmps51
  go_wp2
  go_quiet ((go_at_call 88;exact a3b (C1 _)))
  go_wp2;go_ret
  exact⟨a0b HX.symm,a0w hB _⟩
 | true =>
  have HX:=Hd (p:=a0a s d=decide ((m:Int)=Sh.size s)) (by simp[a0a,hr,hm]);have c1:=fun k=>(a1w (c:=c) (hI2.drewN k))
  rw[hr] at c1;have HM:=Hd hm;have HR:=Hd hr;have C1:=Hd c1;clear hm hr c1;by_cases he:(m:Int)=Sh.size s
  ·have he' : ((m:Int)==Sh.size s)=true:=by simpa using he
   have HE:=Hd he;clear he
   go_enter func51,ntmps51
   go_wp2
   go_quiet ((first|(go_at_call 88;exact a3b (C1 _))|(go_at_call 89;exact a3b (a7b (hI2.drewN _)))))
   go_wp2;go_ret;exact⟨a0b (by rw[HX.out];simp[HE.out]),a0w hB _⟩
  ·have he' : ((m:Int)==Sh.size s)=false:=by simpa using he
   have HE:=Hd he;clear he
   go_enter func51,ntmps51
   go_wp2
   go_quiet ((first|(go_at_call 88;exact a3b (C1 _))|(go_at_call 89;exact a3b (a7b (hI2.drewN _)))))
   go_wp2;go_ret;exact⟨a0b (by rw[HX.out];simp[HE.out]),a0w hB _⟩
def noughts (n:Nat):Array Value:=(List.replicate n (Value.int .i64 0)).toArray
theorem a8v (n:Nat):madeCells #[Value.int .i64 0] n=noughts n:=by
 apply Array.toList_inj.1;rw[toList_madeCells_one];simp[noughts]
theorem a0t (ht:prog.underlying t=some (.slice e))(hinfo:(prog.info? e).map (fun i=>(i.zero,i.size,i.bytes))=some (some (.int .i64 0),1,8))
  (hn:n≤17592186044000)(w:World):
  (Instr.makeSlice t (.int .i64 n) (.int .i64 n)).run prog w=.ok (.slice (some ⟨w.heap.size,0,none⟩) n n) (w.alloc (.cells (noughts n) e)):=by
 obtain⟨i,hi,hz0,hz1,hz2⟩:=info_parts hinfo;have:=run_make (P:=prog) w t e i (.int .i64 0) ht hi hz0 .i64 .i64 n n (by omega) (by omega) (by rw[hz2];omega) (by omega);rw[this,hz1];simp only[Int.toNat_natCast,Nat.mul_one];rw[←a8v];rfl
theorem a7g {base:Nat}(hg:w.heap[g]?=some (.cells (noughts n) e (0,0)))(hb:base≤g)(hn:n≤17592186044000):Own w base e g n n (List.replicate n 0):=by
 refine⟨⟨by simp,.inr ⟨g,n,noughts n,rfl,hb,hg,Nat.le_refl _,by unfold maxLen;omega,by simp[noughts],by simp[noughts]⟩⟩,?_,by omega⟩;intro x hx;rw[List.eq_of_mem_replicate hx];exact⟨by omega,by omega⟩
theorem a2n (w:World)(o:Obj):(w.alloc o).heap.size=w.heap.size+1:=by show(w.heap.push o).size=_;simp
theorem a6p (w:World)(a b c:Obj):(((w.alloc a).alloc b).alloc c).drew.heap[w.heap.size]?=some a:=by
 show(((w.alloc a).alloc b).alloc c).heap[w.heap.size]?=some a
 rw[heap_alloc_old _ c (by rw[a2n,a2n];omega),heap_alloc_old _ b (by rw[a2n];omega),heap_alloc_new]
theorem a6l (w:World)(a b c:Obj):(((w.alloc a).alloc b).alloc c).drew.heap[w.heap.size+1]?=some b:=by
 show(((w.alloc a).alloc b).alloc c).heap[w.heap.size+1]?=some b
 rw[heap_alloc_old _ c (by rw[a2n,a2n];omega),←a2n w a,heap_alloc_new]
theorem a6m (w:World)(a b c:Obj):(((w.alloc a).alloc b).alloc c).drew.heap[w.heap.size+1+1]?=some c:=by
 show(((w.alloc a).alloc b).alloc c).heap[w.heap.size+1+1]?=some c
 rw[←a2n w a,←a2n _ b,heap_alloc_new]
theorem e0c (w:World)(a b c:Obj):Below w.heap.size w (((w.alloc a).alloc b).alloc c).drew:=((((Below.refl _ _).alloc (Nat.le_refl _) _).alloc (by simp) _).alloc (by simp;omega) _).drew
theorem c1f (h:Ints w A n s)(hn:n≤17592186044000):
  Calls prog 105 #[.slice A n c] w fun e w'=>(∃ v,e=.returned v∧OTen w' w.heap.size v s (List.replicate (Sh.size s).toNat 0))∧Below w.heap.size w w':=by
 obtain⟨hsz0,hsz1⟩:=Sh.size_bd s;obtain⟨N,hN⟩:=eZ hsz0;have HN:=Hd hN;rw[hN] at hsz1;have hm1:=a0t underlying22 Tryz.infoInt (n:=n) (by omega);have hm2:=a0t underlying31 Tryz.infoI64 (n:=N) (by omega);clear hN hsz0;have hZ:=(Below.refl w.heap.size w).alloc (Nat.le_refl _) (.cells #[.slice none 0 0,.slice none 0 0] 33);have hzb:=heap_alloc_new w (.cells #[.slice none 0 0,.slice none 0 0] 33);have hzs:(w.alloc (.cells #[.slice none 0 0,.slice none 0 0] 33)).heap.size=w.heap.size+1:=by simp
 go_enter func105,ntmps105
 go_upto_region 1 with fail
 generalize w.alloc (.cells #[.slice none 0 0,.slice none 0 0] 33)=W at *;have hI:=h.below hZ;have HZS:=Hd hzs;have HZB:=Hd hzb;have HZ:=Hd hZ;clear hzb hZ hzs h
 go_cut [3] (fun v wx=>∃(g ga gb:Nat),v=.pointer (some ⟨g,0,none⟩)∧W.heap.size≤g∧wx.heap[g]?=some (.cells #[.slice (some ⟨ga,0,none⟩) n n,.slice (some ⟨gb,0,none⟩) N N] 33 (0,0))∧Own wx W.heap.size 3 ga n n (List.replicate n 0)∧Own wx W.heap.size 2 gb N N (List.replicate N 0)∧Below W.heap.size W wx)
 case first =>
  go_region_held3 (fun w'=>True) (go_keep) ((go_at_call 89;refine(a7b (by first|exact hI.drew|exact(hI.alloc _).drew|exact((hI.alloc _).alloc _).drew)).mono ?_;rw[HN.out];rintro e w' ⟨rfl,rfl⟩))
  all_goals go_wp2_with fail
  all_goals go_meet
  all_goals exact⟨_,_,_,rfl,by omega,(by first|exact a6m _ _ _ _|exact a6l _ _ _ _|exact a6p _ _ _ _),a7g (by first|exact a6m _ _ _ _|exact a6l _ _ _ _|exact a6p _ _ _ _) (by omega) (by omega),a7g (by first|exact a6m _ _ _ _|exact a6l _ _ _ _|exact a6p _ _ _ _) (by omega) (by omega),e0c _ _ _ _⟩
 case rest =>
  obtain⟨g,ga,gb,rfl,hgW,hg,hA,hB,hb⟩:=hcut;have t0:=a0q hg;have t1:=a0j hg;have hI:=hI.below hb;have HA:=Hd hA;have HB:=Hd hB;have HBb:=Hd hb;have HGx:=Hd hg;clear hg hA hB hb;have hgn:=Ne.symm (b6k HA HGx (by decide));have hgl:g<wc.heap.size:=block_lt_of_cell t0;have hwl:w.heap.size<wc.heap.size:=by have:=HBb.size;have:=HZS.out;omega
  have hz1:=(HBb.block w.heap.size (by have:=HZS.out;omega)).trans HZB;have HZ1:=Hd hz1;clear hz1
  go_wp2_with ((with_reducible refine a3m rfl (.tmp 12) (.tmp 13) 22 22 rfl 3 underlying22 Tryz.sizeInt HA.out rfl rfl hI ?_);intro w3 hO3 hg3;have hgx:=(hg3.block g hgl (by simpa using hgn)).trans HGx.out;have t0:=a0q hgx;have t1:=a0j hgx;have hz2:=(hg3.block w.heap.size hwl (by have:=HA.out.base_.1;have:=HZS.out;simp;omega)).trans HZ1.out;have f0:=frozen_of_row _ _ 0 _ _ hz2;have f1:=frozen_of_row _ _ 1 _ _ hz2;have hd0:=a0q hz2;have hd1:=a0j hz2;have HZ2:=Hd hz2;have HG3:=Hd hg3;have HO3:=Hd hO3;clear hz2 hgx hg3 hO3 hgn)
  refine b9r w.heap.size _ _ results105 rfl (a1g HZ2 _ _) rfl ?_;have hgr:=a1b (a0h w3 w.heap.size 0 (.slice (some ⟨ga,0,none⟩) n n)) (a0h _ w.heap.size 1 (.slice (some ⟨gb,0,none⟩) N N));have hb3:=a4x (B:=w.heap.size) (HZ.trans (HBb.mono (by have:=HZS.out;omega))) (by omega) HG3 (by have:=HA.base_.1;have:=HZS.out;omega);have hA' : OwnS w3 (w.heap.size+1) 3 (.slice (some ⟨ga,0,none⟩) n n) n s:=by rw[←HZS.out];exact HO3
  have hB' : OwnS w3 (w.heap.size+1) 2 (.slice (some ⟨gb,0,none⟩) N N) N (List.replicate N 0):=by
   rw[←HZS.out];obtain⟨cs,hcs⟩:=HA.blk;exact OwnS.grownNe HB HG3 (OwnS.apart HB hcs b2d.1.symm)
  rw[HN.out,Int.toNat_natCast];exact⟨⟨_,rfl,_,_,n,N,rfl,(hA'.grown hgr (by omega)).mono (by omega),(hB'.grown hgr (by omega)).mono (by omega)⟩,(hb3.setCell (Nat.le_refl _) _).setCell (Nat.le_refl _) _⟩
end Go.Proofs.YtjblengklgkgfaaGreat
