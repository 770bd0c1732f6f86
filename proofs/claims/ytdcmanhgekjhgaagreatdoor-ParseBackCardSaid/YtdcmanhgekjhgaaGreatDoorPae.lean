import Derived.Test.YtdcmanhgekjhgaaGreatDoorPad
set_option maxRecDepth 100000
set_option maxHeartbeats 12800000
namespace Go.Proofs.YtdcmanhgekjhgaaGreatDoor
open Go.RowKit Go.Proofs.Tryz
variable {A B:Option Addr} {K:Act→World→Prop} {Q:Exit→Act→World→Prop} {R:Ending→World→Prop} {a:Act} {base c g k m n:Nat} {d s xs:List Int} {e t:TypeId} {l l':List a0e} {o:Oper} {ops:Array Oper} {p:Addr} {rest:List Oper} {v x y:Value} {w w0:World}
theorem Tryz.infoI64:(prog.info? 2).map (fun i=>(i.zero,i.size,i.bytes))=some (some (.int .i64 0),1,8):=by kernel_rfl
def Ten (w:World) (v:Value) (s d:List Int):Prop :=
 ∃(A:Option Addr) (n c:Nat) (B:Option Addr) (m e:Nat),v=.agg #[.slice A n c,.slice B m e]∧n≤c∧m≤e∧Ints w A n s∧Ints w B m d
def OTen (w:World) (base:Nat) (v:Value) (s d:List Int):Prop :=
 ∃(vs vd:Value) (n m:Nat),v=.agg #[vs,vd]∧OwnS w base 3 vs n s∧OwnS w base 2 vd m d
section
variable {w w' : World} {base : Nat} {v : Value} {s d : List Int}
theorem Ten.below (h:Ten w v s d)(hb:Below w.heap.size w w'):Ten w' v s d:=by
 obtain⟨A,n,c,B,m,e,rfl,h1,h2,h3,h4⟩:=h;exact⟨A,n,c,B,m,e,rfl,h1,h2,h3.below hb,h4.below hb⟩
theorem OTen.below (h:OTen w base v s d)(hb:Below w.heap.size w w'):OTen w' base v s d:=by
 obtain⟨vs,vd,n,m,rfl,h1,h2⟩:=h;exact⟨vs,vd,n,m,rfl,h1.below hb,h2.below hb⟩
end
theorem Tryz.sizeTen:(prog.info? 89).map (·.size)=some 2:=by kernel_rfl
theorem d8b {fn:Func}{p:Tmp}(g:Nat)(x y:Value)(h:fn.results=#[.cell p 89])(hp:a.tmps.getD p undef=.pointer (some ⟨g,0,none⟩))
  (hg:w.heap[g]?=some (.cells #[x,y] 89 (0,0)))(hd:a.defers=[])(hR:R (.returned (.agg #[x,y])) w):bodyPost prog fn R .ret a w :=
 bodyPost_ret_by (results_cell_row h a.tmps w g _ _ _ _ hp hg underlying89 rfl Tryz.sizeTen) hd hR
theorem a3r {a b:Value}(h:w.heap[g]?=some (.cells #[a,b] t (0,0)))(x y:Value):
  ((w.setCell ⟨g,0,none⟩ x).setCell ⟨g,1,none⟩ y).heap[g]?=some (.cells #[x,y] t (0,0)) :=
 heap_setCell_same _ g 1 _ _ y (heap_setCell_same w g 0 _ _ x h)
theorem a1t (x:Int)(h:Ints w A n s)(hn:n≤17592186044000)(hx:Fits x):
  Calls prog 49 #[.slice A n c,.int .i64 x] w fun e w'=>(∃ v,e=.returned v∧OTen w' w.heap.size v s (List.replicate (Sh.size s).toNat x))∧Below w.heap.size w w':=by
 have hZ:Below w.heap.size w (w.alloc (.cells #[.slice none 0 0,.slice none 0 0] 89)):=(Below.refl _ _).alloc (Nat.le_refl _) _;have hzs:(w.alloc (.cells #[.slice none 0 0,.slice none 0 0] 89)).heap.size=w.heap.size+1:=by simp
 have hzb:=heap_alloc_new w (.cells #[.slice none 0 0,.slice none 0 0] 89)
 go_enter func49,ntmps49
 go_upto_region 1 with fail
 generalize w.alloc (.cells #[.slice none 0 0,.slice none 0 0] 89)=wz at *;have hI:=h.below hZ;have E1:=hI.alloc (.cells #[] 3);have E2:=c6f wz 3 (Nat.le_refl _);have HZS:=Hd hzs;have HZB:=Hd hzb;have HZ:=Hd hZ;clear hzb hZ hI hzs
 go_wp2_with (at_builtin;refine a5q rfl (.tmp 7) (.tmp 8) 25 3 rfl underlying25 Tryz.infoInt wz.heap.size (.slice (some ⟨wz.heap.size,0,none⟩) 0 0) 0 [] rfl E2 ?c1 A n c s rfl E1 ?c2 ?_)
 case c1=>simp
 case c2=>omega
 intro v1 w1 hO1 hg1 hat1;clear hat1;obtain⟨A1,k1,rfl,hk1,_,_⟩:=hO1.form;have hB1:Below w.heap.size w w1:=HZ.trans (((Below.refl wz.heap.size wz).alloc (Nat.le_refl _) _ |>.grown hg1 (by simp) E2.block).mono (by rw[HZS.out];omega));have hz1:=(((Below.refl wz.heap.size wz).alloc (Nat.le_refl _) _ |>.grown hg1 (by simp) E2.block).block w.heap.size (by rw[HZS.out];omega)).trans HZB
 have hs1:w.heap.size<w1.heap.size:=by
  have:=((Below.refl wz.heap.size wz).alloc (Nat.le_refl _) (.cells #[] 3) |>.grown hg1 (by simp) E2.block).size;rw[HZS.out] at this;omega
 obtain⟨hsz0,hsz1⟩:=Sh.size_bd s;obtain⟨N,hN⟩:=eZ hsz0;have HN:=Hd hN;have HB1:=Hd hB1;have HZ1:=Hd hz1;have HO1:=Hd hO1;rw[hN] at hsz1;have hg:=heap_alloc_new w1 (.cells #[.slice A1 n k1,.slice none 0 0] 89);have hB2:=(Below.refl w1.heap.size w1).alloc (Nat.le_refl _) (.cells #[.slice A1 n k1,.slice none 0 0] 89);clear hN hsz0 hB1 hz1 hO1 E1 E2 hg1
 go_wp2_with fail
 go_loopw [6] (fun kv wr=>∃(k:Nat) (B:Option Addr) (e:Nat),kv=.int .i64 k∧k≤N∧wr.heap[w1.heap.size]?=some (.cells #[.slice A1 n k1,.slice B k e] 89 (0,0))∧OwnS wr (w1.heap.size+1) 2 (.slice B k e) k (List.replicate k x)∧Below w1.heap.size w1 wr) (fun kv _=>N - (intOf kv).toNat)
 case atStart=>exact⟨0,none,0,rfl,by omega,hg,OwnS.nil_ _ _ _,hB2⟩
 case round =>
  clear hg hB2;obtain⟨k,B,e,rfl,hk,hg,hO,hB2⟩:=hrel;have hI:=(h.below HB1).below hB2;have hc0:wr.cell? ⟨w1.heap.size,0,none⟩=some (.slice A1 n k1):=by rw[cell_of_row _ _ 0 _ _ _ hg];rfl
  have hc1:wr.cell? ⟨w1.heap.size,1,none⟩=some (.slice B k e):=by rw[cell_of_row _ _ 1 _ _ _ hg];rfl
  have hf0:=frozen_of_row _ _ 0 _ _ hg;have hf1:=frozen_of_row _ _ 1 _ _ hg;have hgl:w1.heap.size<wr.heap.size:=block_lt_of_cell hc0;have HG:=Hd hg;have HO:=Hd hO;have HB2:=Hd hB2;clear hg hO hB2;by_cases hlt:k<N
  ·go_wp2_with fail
   refine(a2g hI).mono ?_;rw[HN.out];rintro e w' ⟨rfl,rfl⟩
   go_wp2_with (at_builtin;refine a2m rfl _ _ 87 2 rfl underlying87 Tryz.infoI64 (w1.heap.size+1) _ k _ rfl HO.out ?c1 x hx _ rfl ?c3 ?_)
   case c1=>omega
   case c3=>omega
   intro v' w3 hO3 hB3 hg3;obtain⟨B', e', rfl,he', _,_⟩:=hO3.form;have hg3' : w3.heap[w1.heap.size]?=some (.cells #[.slice A1 n k1,.slice B k e] 89 (0,0)):=(hB3.block _ (by omega)).trans HG;have hc3:w3.cell? ⟨w1.heap.size,1,none⟩=some (.slice B k e):=by rw[cell_of_row _ _ 1 _ _ _ hg3'];rfl
   have hf3:=frozen_of_row _ _ 1 _ _ hg3';have hg4:=Hd (heap_setCell_same w3 w1.heap.size 1 _ _ (.slice B' (k+1) e') hg3');have hO4:=Hd (hO3.grown (a0y w3 w1.heap.size 1 (.slice B' (k+1) e')) (by omega));have hB4:=Hd ((HB2.trans (hB3.mono (by omega))).setCell (p:=⟨w1.heap.size,1,none⟩) (Nat.le_refl _) (.slice B' (k+1) e'));clear hg3' hO3 hB3 hg3 hI hc0 hc1 hf0 hf1;go_wp2;go_roundw
   case rel=>exact⟨k+1,B', e', by go_num,by omega,hg4,by rw[List.replicate_succ'];exact hO4,hB4⟩
   case measure=>simp[intOf];omega
  ·have hz2:wr.heap[w.heap.size]?=some (.cells #[.slice none 0 0,.slice none 0 0] 89 (0,0)):=(HB2.block _ hs1).trans HZ1;have hd0:wr.cell? ⟨w.heap.size,0,none⟩=some (.slice none 0 0):=by rw[cell_of_row _ _ 0 _ _ _ hz2];rfl
   have hd1:wr.cell? ⟨w.heap.size,1,none⟩=some (.slice none 0 0):=by rw[cell_of_row _ _ 1 _ _ _ hz2];rfl
   have hf2:=frozen_of_row _ _ 0 _ _ hz2;have hf3:=frozen_of_row _ _ 1 _ _ hz2;have HZ2:=Hd hz2;clear hz2
   go_wp2_with fail
   refine(a2g hI).mono ?_;rw[HN.out];rintro e w' ⟨rfl,rfl⟩;go_wp2;refine d8b w.heap.size _ _ results49 rfl (a3r HZ2 _ _) rfl ?_;have hk' : k=N:=by omega
   have hrep:(Sh.size s).toNat=k:=by rw[HN.out];simp[hk']
   rw[hrep];have hgr:=a3n (a0y wr w.heap.size 0 (.slice A1 n k1)) (a0y _ w.heap.size 1 (.slice B k e))
   have hO1' : OwnS wr (w.heap.size+1) 3 (.slice A1 n k1) n s:=by
    have:=HO1.below HB2;rw[HZS.out] at this;exact this
   exact⟨⟨_,rfl,_,_,n,k,rfl,(hO1'.grown hgr (by omega)).mono (by omega),(HO.grown hgr (by omega)).mono (by omega)⟩,
    ((HB1.trans (HB2.mono (by omega))).setCell (Nat.le_refl _) _).setCell (Nat.le_refl _) _⟩
def a0b (s d:List Int):Bool:=Sh.right s&&decide ((d.length:Int)=Sh.size s)
theorem a2c (h:Ten w v s d):
  Calls prog 113 #[v] w fun e w'=>e=.returned (.bool (a0b s d))∧Below w.heap.size w w':=by
 obtain⟨A,n,c,B,m,e,rfl,hnc,hme,hI,hJ⟩:=h;have hB:=(Below.refl w.heap.size w).alloc (Nat.le_refl _) (.cells #[.slice A n c,.slice B m e] 89);have hI2:=hI.alloc (.cells #[.slice A n c,.slice B m e] 89);have hm:=hJ.len;have hme':=hJ.le
 cases hr:Sh.right s with
 | false =>
  have HX:=Hd (p:=a0b s d=false) (by simp[a0b,hr]);have c1:=fun k=>(a0r (c:=c) (hI2.drewN k))
  rw[hr] at c1;have HM:=Hd hm;have HR:=Hd hr;have C1:=Hd c1;clear hm hr c1
  go_enter func113,ntmps113
  go_wp2
  go_quiet ((go_at_call 48;exact a3p (C1 _)))
  go_wp2;go_ret
  exact⟨a0c HX.symm,a1h hB _⟩
 | true =>
  have HX:=Hd (p:=a0b s d=decide ((m:Int)=Sh.size s)) (by simp[a0b,hr,hm]);have c1:=fun k=>(a0r (c:=c) (hI2.drewN k))
  rw[hr] at c1;have HM:=Hd hm;have HR:=Hd hr;have C1:=Hd c1;clear hm hr c1;by_cases he:(m:Int)=Sh.size s
  ·have he' : ((m:Int)==Sh.size s)=true:=by simpa using he
   have HE:=Hd he;clear he
   go_enter func113,ntmps113
   go_wp2
   go_quiet ((first|(go_at_call 48;exact a3p (C1 _))|(go_at_call 26;exact a3p (a2g (hI2.drewN _)))))
   go_wp2;go_ret;exact⟨a0c (by rw[HX.out];simp[HE.out]),a1h hB _⟩
  ·have he' : ((m:Int)==Sh.size s)=false:=by simpa using he
   have HE:=Hd he;clear he
   go_enter func113,ntmps113
   go_wp2
   go_quiet ((first|(go_at_call 48;exact a3p (C1 _))|(go_at_call 26;exact a3p (a2g (hI2.drewN _)))))
   go_wp2;go_ret;exact⟨a0c (by rw[HX.out];simp[HE.out]),a1h hB _⟩
theorem c7m:(3:TypeId)≠2∧(3:TypeId)≠89∧(2:TypeId)≠89∧(55:TypeId)≠2:=by decide
theorem c9m (a:Nat)(h:Ints w A n s)(hr:Sh.right s=true)(ha:a<n):
  Calls prog 79 #[.slice A n c,.int .i64 a] w fun e w' =>
   (∃ v,e=.returned v∧OTen w' w.heap.size v s (Sh.iota s a))∧Below w.heap.size w w':=by
 have hn4:n≤4:=by have:=(Sh.right_iff.1 hr).1;have:=h.len;omega
 have hZ:=(Below.refl w.heap.size w).alloc (Nat.le_refl _) (.cells #[.slice none 0 0,.slice none 0 0] 89);have hzb:=heap_alloc_new w (.cells #[.slice none 0 0,.slice none 0 0] 89);have hzs:(w.alloc (.cells #[.slice none 0 0,.slice none 0 0] 89)).heap.size=w.heap.size+1:=by simp
 go_enter func79,ntmps79
 go_wp2_with fail
 generalize w.alloc (.cells #[.slice none 0 0,.slice none 0 0] 89)=wz at *;refine(a1t 0 (h.below hZ) (by omega) ⟨by omega,by omega⟩).mono ?_;rintro e w1 ⟨⟨v,rfl,vs,vd,ns,N,rfl,hOs,hOd⟩,hb1⟩;have hNN:=hOd.len;rw[List.length_replicate] at hNN;subst hNN;obtain⟨hsz0,hsz1⟩:=Sh.size_bd s;have hcast:((Sh.size s).toNat:Int)=Sh.size s:=by omega
 generalize hNs:(Sh.size s).toNat=N at *;have HNS:=Hd hNs;have HC:=Hd hcast;have hN4:N≤4096:=by omega
 clear hNs hcast hsz0 hsz1;obtain⟨A1,k1,rfl,hk1,_,_⟩:=hOs.form;obtain⟨B,k2,rfl,hk2,_,_⟩:=hOd.form;have hB1:=hZ.trans (hb1.mono (by omega));have hz1:=(hb1.block w.heap.size (by omega)).trans hzb;have hs1:w.heap.size<w1.heap.size:=by have:=hb1.size;omega
 rw[hzs] at hOs hOd;have hgx:=heap_alloc_new w1 (.cells #[.slice A1 ns k1,.slice B N k2] 89);have hb2:=(Below.refl w1.heap.size w1).alloc (Nat.le_refl _) (.cells #[.slice A1 ns k1,.slice B N k2] 89);have HZ1:=Hd hz1;have HB1:=Hd hB1;have hz2:=(hb2.block _ hs1).trans HZ1;have hOs2:=hOs.below hb2;have hOd2:=hOd.below hb2;have hB2:=hB1.trans (hb2.mono (by omega));have HR:=Hd hr;have HU:=Hd (Upto.start (ys:=List.replicate N 0) (zs:=Sh.iota s a) (by rw[List.length_replicate,Sh.iota_length,HNS.out]));clear hz1 hB1 hzb hZ hzs hb1 hb2 hOs hOd hr
 go_wp2_with fail
 generalize w1.alloc (.cells #[.slice A1 ns k1,.slice B N k2] 89)=w2 at *
 go_loopw [6] (fun kv wr=>∃(j:Nat) (d:List Int),kv=.int .i64 j∧j≤N∧wr.heap[w1.heap.size]?=some (.cells #[.slice A1 ns k1,.slice B N k2] 89 (0,0))∧wr.heap[w.heap.size]?=some (.cells #[.slice none 0 0,.slice none 0 0] 89 (0,0))∧OwnS wr (w.heap.size+1) 3 (.slice A1 ns k1) ns s∧OwnS wr (w.heap.size+1) 2 (.slice B N k2) N d∧Upto j d (Sh.iota s a)∧Below w.heap.size w wr) (fun kv _=>N - (intOf kv).toNat)
 case atStart=>exact⟨0,_,rfl,by omega,hgx,hz2,hOs2,hOd2,HU,hB2⟩
 case round =>
  clear hgx hz2 hOs2 hOd2 hB2 HU;obtain⟨j,d,rfl,hj,hgx,hz2,hOs,hOd,hU,hB⟩:=hrel;have hdl:=hOd.len;have hcx:wr.cell? ⟨w1.heap.size,1,none⟩=some (.slice B N k2):=by rw[cell_of_row _ _ 1 _ _ _ hgx];rfl
  have hxl:w1.heap.size<wr.heap.size:=block_lt_of_cell hcx;by_cases hlt:j<N
  ·obtain⟨gb,cb,hv,hO⟩:=hOd.own (by omega);injection hv with hv1 _ hv3
   subst hv1;subst hv3;have hgb:=hO.base_.1;have hji:(j:Int)<Sh.size s:=by rw[←HC.out];omega
   have hpl:=Sh.placeOf_place (s:=s) (i:=j) (by omega) hji;have hia:=Sh.iota_at (a:=a) hji;have hI:=(h.below hB).drew;obtain⟨x,hx⟩:∃ x,s[a]?=some x:=gE (by rw[h.len];exact ha);have hpa:=Sh.place_at (i:=j) hx;have hgd:(Sh.place s j).getD a 0=j / Sh.pd (s.drop (a+1)) % x:=by rw[gD,hpa];rfl
   rw[hgd] at hia;have hU2:=Hd (hU.set_ hia);have HPL:=Hd hpl;have HPA:=Hd hpa;have HB:=Hd hB;have HX:=Hd hgx;have HZ:=Hd hz2;have HS:=Hd hOs;have HD:=Hd hOd;have HL:=Hd hdl;obtain⟨dj,hdj0⟩:∃ x,d[j]?=some x:=gE (by omega:j<d.length);have hdj:=Hd hdj0;have hax:a<(Sh.place s j).length:=by rw[Sh.place_length,h.len];exact ha
   have HAX:=Hd hax;clear hdj0 hB hgx hz2 hOs hOd hO hdl hU hpl hpa hia hgd hx hji hax
   go_wp2_with fail
   go_region_with (go_at_call 110;refine(c6n (j:Int) hI ⟨by omega,by omega⟩).mono ?_;rw[HPL.out];rintro e w3 ⟨⟨P,m,q,rfl,hq,hJ⟩,hb3⟩;have hc3:w3.cell? ⟨w1.heap.size,1,none⟩=some (.slice (some ⟨gb,0,none⟩) N k2):=(hb3.cell (p:=⟨w1.heap.size,1,none⟩) hxl).trans hcx;(obtain rfl:m=n:=by rw[←hJ.len,Sh.place_length,h.len]);obtain⟨pa,xx,rfl,_,hxx,hcp,hff⟩:=hJ.at_ (k:=a) ha;have HXX:=Hd hxx;clear hxx;have hO3:Own w3 (w.heap.size+1) 2 gb N k2 d:=HD.drew.below hb3;have hcs:=hO3.cell hdj;have hfs:=hO3.frozen j;have hne:=e6n hO3 ((hb3.block w1.heap.size hxl).trans HX) c7m.2.2.1;have hc4:(w3.setCell ⟨gb,j,none⟩ (.int .i64 xx)).cell? ⟨w1.heap.size,1,none⟩=some (.slice (some ⟨gb,0,none⟩) N k2):=(World.cell?_setCell_other w3 _ _ _ (by intro h';injection h' with h';exact hne h')).trans hc3)
   all_goals
    obtain rfl:xx=j / Sh.pd (s.drop (a+1)) % x:=by
     have:=HXX.out;rw[HPA.out] at this;injection this with this
     exact this.symm
    have hx3:=(hb3.block w1.heap.size hxl).trans HX;have hz3:=(hb3.block w.heap.size (by show w.heap.size<wr.heap.size;omega)).trans HZ;have hS3:OwnS w3 (w.heap.size+1) 3 (.slice A1 ns k1) ns s:=HS.drew.below hb3;obtain⟨cs3,hbk⟩:=hO3.blk;have hgw:=a0y w3 gb j (.int .i64 (j / Sh.pd (s.drop (a+1)) % x));have hwl:wr.heap.size≤w3.heap.size:=hb3.size;have hx4:=Hd ((hgw.block _ (by omega) (fun h'=>a4z hx3 hbk c7m.2.2.1.symm (by injection h'))).trans hx3);have hz4:=Hd ((hgw.block w.heap.size (by omega) (fun h'=>a4z hz3 hbk c7m.2.2.1.symm (by injection h'))).trans hz3);have hS4:=Hd (hS3.grownNe hgw (hS3.apart hbk c7m.1));have hO4:=Hd (hO3.store j hff);have hB4:=Hd (((HB.drew.trans (hb3.mono HB.size))).setCell (p:=⟨gb,j,none⟩) (by show w.heap.size≤gb;omega) (.int .i64 (j / Sh.pd (s.drop (a+1)) % x)));clear hx3 hz3 hS3 hbk hgw hcs hfs hO3 hc3 hc4 hne hcx hb3 hJ hcp;go_wp2;go_roundw
    case rel=>exact⟨j+1,_,by go_num,by omega,hx4,hz4,hS4,hO4,hU2,hB4⟩
    case measure=>simp[intOf];omega
  ·have hcy:wr.cell? ⟨w1.heap.size,0,none⟩=some (.slice A1 ns k1):=by rw[cell_of_row _ _ 0 _ _ _ hgx];rfl
   have hd0:wr.cell? ⟨w.heap.size,0,none⟩=some (.slice none 0 0):=by rw[cell_of_row _ _ 0 _ _ _ hz2];rfl
   have hd1:wr.cell? ⟨w.heap.size,1,none⟩=some (.slice none 0 0):=by rw[cell_of_row _ _ 1 _ _ _ hz2];rfl
   have hf2:=frozen_of_row _ _ 0 _ _ hz2;have hf3:=frozen_of_row _ _ 1 _ _ hz2;have HZ2:=Hd hz2;have HB:=Hd hB;obtain rfl:d=Sh.iota s a:=hU.all (by rw[Sh.iota_length,HNS.out];omega);clear hz2 hgx hB hdl hU;go_wp2;refine d8b w.heap.size _ _ results79 rfl (a3r HZ2 _ _) rfl ?_;have hb:=(HB.setCell (p:=⟨w.heap.size,0,none⟩) (Nat.le_refl _) (.slice A1 ns k1)).setCell (p:=⟨w.heap.size,1,none⟩) (Nat.le_refl _) (.slice B N k2);have hgr:=a3n (a0y wr w.heap.size 0 (.slice A1 ns k1)) (a0y _ w.heap.size 1 (.slice B N k2));exact⟨⟨_,rfl,_,_,ns,N,rfl,(hOs.grown hgr (by omega)).mono (by omega),(hOd.grown hgr (by omega)).mono (by omega)⟩,hb⟩
theorem b0x {w':World}{i:Nat}(hb:Below w.heap.size w w')(hc:w.cell? ⟨g,i,none⟩=some x):w'.cell? ⟨g,i,none⟩=some x :=
 (hb.cell (p:=⟨g,i,none⟩) (block_lt_of_cell hc)).trans hc
theorem a2a (h:w.heap[g]?=some (.cells #[x,y] t (0,0))):w.cell? ⟨g,0,none⟩=some x:=by rw[cell_of_row _ _ 0 _ _ _ h];rfl
theorem a1j (h:w.heap[g]?=some (.cells #[x,y] t (0,0))):w.cell? ⟨g,1,none⟩=some y:=by rw[cell_of_row _ _ 1 _ _ _ h];rfl
theorem a3z {e:Nat}(h:Ints w A n s)(hc:n≤c)(g:Ints w B m d)(he:m≤e):Ten w (.agg #[.slice A n c,.slice B m e]) s d :=
 ⟨A,n,c,B,m,e,rfl,hc,he,h,g⟩
theorem Tryz.sizeInt:(prog.info? 3).map (·.size)=some 1:=by kernel_rfl
theorem a6q {fn:Func}{p u:Tmp}(g:Nat)(x y z:Value)(h:fn.results=#[.cell p 89,.tmp u])(hp:a.tmps.getD p undef=.pointer (some ⟨g,0,none⟩))
  (hz:a.tmps.getD u undef=z)(hg:w.heap[g]?=some (.cells #[x,y] 89 (0,0)))(hd:a.defers=[])(hR:R (.returned (.tuple #[.agg #[x,y],z])) w):bodyPost prog fn R .ret a w:=by
 refine bodyPost_ret_by ?_ hd hR;have hp' : a.tmps[p]?.getD undef=.pointer (some ⟨g,0,none⟩):=by simpa using hp
 have hz' : a.tmps[u]?.getD undef=z:=by simpa using hz
 rw[results_cell_tmp h];simp[hp', hz', asAddr,run_loadVar_row w g _ 89 _ _ _ hg underlying89 rfl Tryz.sizeTen,Result.andThen]
def noughts (n:Nat):Array Value:=(List.replicate n (Value.int .i64 0)).toArray
theorem a8m (n:Nat):madeCells #[Value.int .i64 0] n=noughts n:=by
 apply Array.toList_inj.1;rw[toList_madeCells_one];simp[noughts]
theorem a2z (ht:prog.underlying t=some (.slice e))(hinfo:(prog.info? e).map (fun i=>(i.zero,i.size,i.bytes))=some (some (.int .i64 0),1,8))
  (hn:n≤17592186044000)(w:World):
  (Instr.makeSlice t (.int .i64 n) (.int .i64 n)).run prog w=.ok (.slice (some ⟨w.heap.size,0,none⟩) n n) (w.alloc (.cells (noughts n) e)):=by
 obtain⟨i,hi,hz0,hz1,hz2⟩:=info_parts hinfo;have:=run_make (P:=prog) w t e i (.int .i64 0) ht hi hz0 .i64 .i64 n n (by omega) (by omega) (by rw[hz2];omega) (by omega);rw[this,hz1];simp only[Int.toNat_natCast,Nat.mul_one];rw[←a8m];rfl
theorem c9c (hg:w.heap[g]?=some (.cells (noughts n) e (0,0)))(hb:base≤g)(hn:n≤17592186044000):Own w base e g n n (List.replicate n 0):=by
 refine⟨⟨by simp,.inr ⟨g,n,noughts n,rfl,hb,hg,Nat.le_refl _,by unfold maxLen;omega,by simp[noughts],by simp[noughts]⟩⟩,?_,by omega⟩;intro x hx;rw[List.eq_of_mem_replicate hx];exact⟨by omega,by omega⟩
theorem a1v (w:World)(o:Obj):(w.alloc o).heap.size=w.heap.size+1:=by show(w.heap.push o).size=_;simp
theorem d0f (w:World)(a b c:Obj):(((w.alloc a).alloc b).alloc c).drew.heap[w.heap.size]?=some a:=by
 show(((w.alloc a).alloc b).alloc c).heap[w.heap.size]?=some a
 rw[heap_alloc_old _ c (by rw[a1v,a1v];omega),heap_alloc_old _ b (by rw[a1v];omega),heap_alloc_new]
theorem d0g (w:World)(a b c:Obj):(((w.alloc a).alloc b).alloc c).drew.heap[w.heap.size+1]?=some b:=by
 show(((w.alloc a).alloc b).alloc c).heap[w.heap.size+1]?=some b
 rw[heap_alloc_old _ c (by rw[a1v,a1v];omega),←a1v w a,heap_alloc_new]
theorem d0h (w:World)(a b c:Obj):(((w.alloc a).alloc b).alloc c).drew.heap[w.heap.size+1+1]?=some c:=by
 show(((w.alloc a).alloc b).alloc c).heap[w.heap.size+1+1]?=some c
 rw[←a1v w a,←a1v _ b,heap_alloc_new]
theorem a1u {a:Addr}(o:Obj)(h:w.cell? a=some v):(w.alloc o).cell? a=some v:=(World.cell?_alloc_lt w o a (World.block_lt_of_cell? w a h)).trans h
theorem Ints.lt (h:Ints w A n xs):∀ ad,A=some ad→0<n→ad.block<w.heap.size:=fun ad he hn=>by
 obtain⟨a', e', hb,_⟩:=h.2.2.2 hn;rw[e'] at he;injection he with he
 rw[←he];exact hb
theorem a1b {e:Nat}(h:Ten w (.agg #[.slice A n c,.slice B m e]) s d):Ints w A n s∧Ints w B m d:=by
 obtain⟨A', n', c', B', m', e', h1,_,_,h2,h3⟩:=h;simp only[Value.agg.injEq,Array.mk.injEq,List.cons.injEq,Value.slice.injEq,and_true] at h1;obtain⟨⟨rfl,rfl,rfl⟩,rfl,rfl,rfl⟩:=h1;exact⟨h2,h3⟩
variable {P : Program}
theorem Sep.addNil (h:Sep w0 w l)(e:TypeId):Sep w0 w (.own e (.slice none 0 0) 0 []::l) :=
 Sep.cons_ h.1 (OwnS.nil_ _ _ _) h.2.1 (fun _ _ _ k hk=>by cases hk) h.2.2
theorem Sep.noughts (h:Sep w0 w l)(e:TypeId)(n:Nat)(hn:n≤17592186044000):Sep w0 (w.alloc (.cells (noughts n) e)) (.own e (.slice (some ⟨w.heap.size,0,none⟩) n n) n (List.replicate n 0)::l) :=
 h.addOwn ((Below.refl _ _).alloc (Nat.le_refl _) _) (c9c (heap_alloc_new _ _) (Nat.le_refl _) hn)
theorem e2o (w:World)(e:TypeId)(cs:Array Value)(xs:List Int)(hb:base≤w.heap.size)(hc:cs.toList=xs.map (Value.int .i64))(h:a1e xs n=true):
  OwnS (w.alloc (.cells cs e)) base e (.slice (some ⟨w.heap.size,0,none⟩) n n) n xs:=by
 simp only[a1e,Bool.and_eq_true,decide_eq_true_eq,List.all_eq_true] at h;have hs:cs.size=n*1:=by rw[←Array.length_toList,hc,List.length_map];omega
 refine⟨?_,fun x hx=>h.1.1 x hx,by omega⟩;have:=World.ownsRow_lit (e:=e) w cs n hb (by unfold maxLen;omega) hs;rwa [hc] at this
theorem Sep.lit (h:Sep w0 w l)(e:TypeId)(cs:Array Value)(xs:List Int)(n g:Nat)(hg:w.heap.size=g)(hc:cs.toList=xs.map (Value.int .i64))(hl:a1e xs n=true):
  Sep w0 (w.alloc (.cells cs e)) (.own e (.slice (some ⟨g,0,none⟩) n n) n xs::l):=by
 subst hg;exact h.addOwn ((Below.refl _ _).alloc (Nat.le_refl _) _) (e2o w e cs xs (Nat.le_refl _) hc hl)
theorem Sep.empty (h:Sep w0 w l)(e:TypeId):Sep w0 (w.alloc (.cells #[] e)) (.own e (.slice (some ⟨w.heap.size,0,none⟩) 0 0) 0 []::l) :=
 h.addOwn ((Below.refl _ _).alloc (Nat.le_refl _) _) (c6f w e (Nat.le_refl _))
theorem Sep.oldCell (h:Sep w0 w l)(hb:p.block<w0.heap.size)(hc:w0.cell? p=some v):w.cell? p=some v:=(h.base.cell hb).trans hc
theorem Sep.oC (h:Sep w0 w l)(hc:w0.cell? p=some v)(hb:p.block<w0.heap.size):w.cell? p=some v:=h.oldCell hb hc
theorem Sep.oldTen (h:Sep w0 w l)(ht:Ten w0 v s d):Ten w v s d:=ht.below h.base
theorem Sep.oldI (h:Sep w0 w l)(hI:Ints w0 A n xs):Ints w A n xs:=hI.below h.base
theorem a0o (hgd:o.guard=none)(s y:Operand)(t e:TypeId)
  (ho:o.op=.call { callee:=.builtin .append,args:=#[s,y],argTypes:=#[t,t] })(ht:P.underlying t=some (.slice e))
  (hinfo:(P.info? e).map (fun i=>(i.zero,i.size,i.bytes))=some (some (.int .i64 0),1,8))
  (H:Sep w0 w l)(i:Nat)(hi:l[i]?=some (.own e v n xs))(hs:a.eval s=v)(x:Int)(hf:Fits x)(c:Nat)(hy:a.eval y=.slice (some ⟨w.heap.size,0,none⟩) 1 c)
  (hn:n≤17592186043000)
  (h:∀ v' w', Sep w0 w' (l.set i (.own e v' (n+1) (xs++[x])))→wpList P ops Q rest (a.put o.dst v') w'):
  wpList P ops Q (o::rest) a (w.alloc (.cells #[.int .i64 x] e)):=by
 have H':=H.below ((Below.refl w.heap.size w).alloc (Nat.le_refl _) (.cells #[.int .i64 x] e));refine a5q hgd s y t e ho ht hinfo w0.heap.size v n xs hs (H'.ownS i hi) (by have:=H'.size;exact this) _ 1 c [x] hy (c1d w e #[.int .i64 x] [x] rfl (by simpa using hf) 1 rfl (by omega)) (by omega) fun v' w' h1 h2 h3=>h v' w' (H'.grow i hi h2 h1 h3)
theorem a0n {E:Prop}(hgd:o.guard=none)(s y:Operand)(t e:TypeId)
  (ho:o.op=.call { callee:=.builtin .append,args:=#[s,y],argTypes:=#[t,t] })(ht:P.underlying t=some (.slice e))
  (hinfo:(P.info? e).map (fun i=>(i.zero,i.size,i.bytes))=some (some (.int .i64 0),1,8))
  (H:Sep w0 w l)(i:Nat)(hi:l[i]?=some (.own e v n xs))(hs:a.eval s=v)(x:Int)(hf:Fits x)(c:Nat)(hy:a.eval y=.slice (some ⟨w.heap.size,0,none⟩) 1 c)
  (hn:n≤17592186043000)
  (h:∀ v' w', Sep w0 w' (l.set i (.own e v' (n+1) (xs++[x])))→K (a.put o.dst v') w'):
  if Region.wanted o (yielded ops a.tmps)=true then Oper.wp P o a (w.alloc (.cells #[.int .i64 x] e)) K Q else E:=by
 have H':=H.below ((Below.refl w.heap.size w).alloc (Nat.le_refl _) (.cells #[.int .i64 x] e));refine a9k hgd s y t e ho ht hinfo w0.heap.size v n xs hs (H'.ownS i hi) (by have:=H'.size;exact this) _ 1 c [x] hy (c1d w e #[.int .i64 x] [x] rfl (by simpa using hf) 1 rfl (by omega)) (by omega) fun v' w' h1 h2 h3=>h v' w' (H'.grow i hi h2 h1 h3)
theorem a0g (hgd:o.guard=none)(s y:Operand)(t e:TypeId)
  (ho:o.op=.call { callee:=.builtin .append,args:=#[s,y],argTypes:=#[t,t] })(ht:P.underlying t=some (.slice e))
  (hinfo:(P.info? e).map (fun i=>(i.zero,i.size,i.bytes))=some (some (.int .i64 0),1,8))
  (H:Sep w0 w l)(i:Nat)(hi:l[i]?=some (.own e v n xs))(hs:a.eval s=v)(A:Option Addr)(m c:Nat)(ys:List Int)(hy:a.eval y=.slice A m c)(hI:Ints w A m ys)
  (hn:n+m≤17592186044000)
  (h:∀ v' w', Sep w0 w' (l.set i (.own e v' (n+m) (xs++ys)))→wpList P ops Q rest (a.put o.dst v') w'):wpList P ops Q (o::rest) a w :=
 a5q hgd s y t e ho ht hinfo w0.heap.size v n xs hs (H.ownS i hi) H.size A m c ys hy hI hn fun v' w' h1 h2 h3=>h v' w' (H.grow i hi h2 h1 h3)
theorem a0k {E:Prop}(hgd:o.guard=none)(s y:Operand)(t e:TypeId)
  (ho:o.op=.call { callee:=.builtin .append,args:=#[s,y],argTypes:=#[t,t] })(ht:P.underlying t=some (.slice e))
  (hinfo:(P.info? e).map (fun i=>(i.zero,i.size,i.bytes))=some (some (.int .i64 0),1,8))
  (H:Sep w0 w l)(i:Nat)(hi:l[i]?=some (.own e v n xs))(hs:a.eval s=v)(A:Option Addr)(m c:Nat)(ys:List Int)(hy:a.eval y=.slice A m c)(hI:Ints w A m ys)
  (hn:n+m≤17592186044000)
  (h:∀ v' w', Sep w0 w' (l.set i (.own e v' (n+m) (xs++ys)))→K (a.put o.dst v') w'):
  if Region.wanted o (yielded ops a.tmps)=true then Oper.wp P o a w K Q else E :=
 a9k hgd s y t e ho ht hinfo w0.heap.size v n xs hs (H.ownS i hi) H.size A m c ys hy hI hn fun v' w' h1 h2 h3=>h v' w' (H.grow i hi h2 h1 h3)
theorem and3 (n:Int):bits .and .i64 n 3=n % 4:=by
 have h7:(BitVec.ofInt 64 3).toNat=2 ^ 2-1:=by decide
 have key:(BitVec.ofInt 64 n &&& BitVec.ofInt 64 3).toNat=(n % ((2 ^ 64:Nat):Int)).toNat % 2 ^ 2:=by
  rw[BitVec.toNat_and,BitVec.toNat_ofInt,h7,Nat.and_two_pow_sub_one_eq_mod]
 show IntKind.i64.wrap ((BitVec.ofInt 64 n &&& BitVec.ofInt 64 3).toNat:Nat)=n % 4
 rw[key,IntKind.wrap_i64];omega
theorem Sep.recast (H:Sep w0 w l)(h:l=l'):Sep w0 w l':=h ▸ H
theorem Sep.tail_ {c:a0e}(h:Sep w0 w (c::l)):Sep w0 w l :=
 ⟨h.1,fun i d hi=>h.2.1 (i+1) d hi,fun i j a b hij hi hj=>h.2.2 (i+1) (j+1) a b (by omega) hi hj⟩
theorem Sep.less1 {c d:a0e}(h:Sep w0 w (c::d::l)):Sep w0 w (c::l) :=
 Sep.cons_ h.1 (h.2.1 0 c rfl) h.tail_.tail_.2.1 (fun i e hi=>h.2.2 0 (i+2) c e (by omega) rfl hi) h.tail_.tail_.2.2
theorem Sep.swap {c d:a0e}(h:Sep w0 w (c::d::l)):Sep w0 w (d::c::l) :=
 Sep.cons_ h.1 (h.2.1 1 d rfl) h.less1.2.1 (fun i e hi=>by
  cases i with
  | zero=>simp at hi;subst hi;exact(h.2.2 0 1 _ d (by omega) rfl rfl).symm
  | succ i=>exact h.2.2 1 (i+2) d e (by omega) rfl (by simpa using hi)) h.less1.2.2
theorem Sep.pair:Sep w0 w l↔Below w0.heap.size w0 w∧(∀ c∈l,a0e.holds w w0.heap.size c)∧l.Pairwise c4n:=by
 constructor
 ·rintro⟨h1,h2,h3⟩;refine⟨h1,fun c hc=>?_,?_⟩
  ·obtain⟨i,hi⟩:=List.getElem?_of_mem hc;exact h2 i c hi
  ·rw[List.pairwise_iff_getElem];intro i j hi hj hij;exact h3 i j _ _ (by omega) (List.getElem?_eq_getElem hi) (List.getElem?_eq_getElem hj)
 ·rintro⟨h1,h2,h3⟩;refine⟨h1,fun i c hi=>h2 c (mG hi),fun i j a b hij hi hj=>?_⟩;rw[List.pairwise_iff_getElem] at h3;obtain⟨hil,rfl⟩:=List.getElem?_eq_some_iff.1 hi;obtain⟨hjl,rfl⟩:=List.getElem?_eq_some_iff.1 hj;rcases Nat.lt_or_ge i j with h|h
  ·exact h3 i j hil hjl h
  ·exact(h3 j i hjl hil (by omega)).symm
theorem Sep.perm (h:Sep w0 w l)(hp:l.Perm l'):Sep w0 w l':=by
 obtain⟨h1,h2,h3⟩:=Sep.pair.1 h;exact Sep.pair.2 ⟨h1,fun c hc=>h2 c (hp.mem_iff.2 hc),hp.pairwise h3 fun hab=>hab.symm⟩
theorem OwnS.take (h:OwnS w base e (.slice A n c) n xs)(hk:k≤n)(h0:0<k):OwnS w base e (.slice A k c) k (xs.take k):=by
 obtain⟨⟨hl,hh⟩,hf,hn⟩:=h;refine⟨⟨by rw[List.map_take,List.length_take,hl];omega,?_⟩,fun x hx=>hf x (List.mem_of_mem_take hx),by omega⟩;rcases hh with ⟨_,h'⟩|⟨g,cap,cur,hv,hb,hg,hnc,hcm,hcs,hct⟩
 ·omega
 ·right
  injection hv with h1 h2 h3
  refine⟨g,cap,cur,by rw[h1,h3],hb,hg,by omega,hcm,hcs,?_⟩;rw[List.map_take,←hct,List.take_take]
  congr 1;omega
theorem Sep.takeOwn (h:Sep w0 w l)(i:Nat)(hi:l[i]?=some (.own e (.slice A n c) n xs))(hk:k≤n)(h0:0<k):
  Sep w0 w (l.set i (.own e (.slice A k c) k (xs.take k))) :=
 h.change i hi (World.grownBy.refl _ _) (OwnS.take (h.ownS i hi) hk h0) fun b hb=>.inl (by cases A <;> exact hb)
theorem Sep.rowForm {us:List Value}(h:Sep w0 w l)(i:Nat)(hi:l[i]?=some (.row e k v n us))(hn:0<n):∃ g c,v=.slice (some ⟨g,0,none⟩) n c∧n≤c:=by
 have hr:w.ownsRow w0.heap.size e k v n us:=h.at_ i hi;rcases hr.2 with ⟨_,h'⟩|⟨g,cap,cur,hv,_,_,hnc,_⟩
 ·omega
 ·exact⟨g,cap,hv,hnc⟩
theorem Sep.addRowNil (h:Sep w0 w l)(e:TypeId)(k:Nat):Sep w0 w (.row e k (.slice none 0 0) 0 []::l) :=
 Sep.cons_ h.1 (World.ownsRow_nil w w0.heap.size e k) h.2.1 (fun _ _ _ b hb=>by cases hb) h.2.2
theorem Sep.ofBelow (h:Below w0.heap.size w0 w):Sep w0 w []:=⟨h,fun i c hi=>by simp at hi,fun i j a b _ hi=>by simp at hi⟩
end Go.Proofs.YtdcmanhgekjhgaaGreatDoor
