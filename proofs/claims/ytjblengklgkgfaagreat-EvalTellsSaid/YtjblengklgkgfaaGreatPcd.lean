import Derived.Test.YtjblengklgkgfaaGreatPbx
import Derived.Test.YtjblengklgkgfaaGreatPby
import Derived.Test.YtjblengklgkgfaaGreatPcc
set_option maxRecDepth 100000
set_option maxHeartbeats 12800000
namespace Go.Proofs.YtjblengklgkgfaaGreat
open Go.RowKit Go.Proofs.Tryz
variable {A:Option Addr} {G:a3n} {c g n:Nat} {nd:a0s} {v:Value} {w w':World} {xs:List Int}
def d1f (w:World) (A:Option Addr) (n:Nat) (L:List c3i):Prop :=
 L.length=n∧n≤17592186044000∧∀ j t,L[j]?=some t→d0a t∧∃ a,A=some a∧a.block<w.heap.size∧w.cell? (a.add (j*5))=some (.int .i64 t.what) ∧
  w.cell? ⟨(a.add (j*5)).block,(a.add (j*5)).off+1,none⟩=some (.int .i64 t.node)∧w.cell? ⟨(a.add (j*5)).block,(a.add (j*5)).off+2,none⟩=some (.int .i64 t.at_) ∧
  w.cell? ⟨(a.add (j*5)).block,(a.add (j*5)).off+3,none⟩=some (.int .i64 t.n)∧w.cell? ⟨(a.add (j*5)).block,(a.add (j*5)).off+4,none⟩=some (.string t.text)
theorem d1f.below {L:List c3i}(h:d1f w A n L)(hb:Below w.heap.size w w'):d1f w' A n L :=
 ⟨h.1,h.2.1,fun j x hx=>by
  obtain⟨ok,a,e,hl,h0,h1,h2,h3,h4⟩:=h.2.2 j x hx;have hl' : ∀ k:Nat,(⟨(a.add (j*5)).block,(a.add (j*5)).off+k,none⟩:Addr).block<w.heap.size:=fun k=>by simp only[a0g];exact hl
  exact⟨ok,a,e,by have:=hb.size;omega,(hb.cell (by rw[a0g];exact hl)).trans h0,(hb.cell (hl' 1)).trans h1,(hb.cell (hl' 2)).trans h2,(hb.cell (hl' 3)).trans h3,(hb.cell (hl' 4)).trans h4⟩⟩
def GBox (w:World) (g:Nat):Prop:=∃ A na ca nm B nb cb C nc cc T f,w.heap[g]?=some (.cells #[.slice A na ca,.string nm,.slice B nb cb,.slice C nc cc] T f)
theorem d9x {p:Addr}{x:Int}(hb:GBox w g)(hc:w.cell? p=some (.int .i64 x)):p.block≠g:=by
 intro e;obtain⟨A,na,ca,nm,B,nb,cb,C,nc,cc,T,f,hb⟩:=hb;simp only[World.cell?,e,hb] at hc
 split at hc
 ·cases hc
 ·rcases(show p.off=0∨p.off=1∨p.off=2∨p.off=3∨4≤p.off by omega) with h|h|h|h|h
  ·rw[h] at hc;cases hc
  ·rw[h] at hc;cases hc
  ·rw[h] at hc;cases hc
  ·rw[h] at hc;cases hc
  ·rw[Array.getElem?_eq_none (by simpa using h)] at hc;cases hc
structure d3t (w w' : World) (g:Nat):Prop where
 box:GBox w g
 cell:∀ p:Addr,p.block≠g→w'.cell? p=w.cell? p
 size:w.heap.size≤w'.heap.size
theorem Ints.keepB (h:Ints w A n xs)(k:d3t w w' g):Ints w' A n xs :=
 ⟨h.1,h.2.1,h.2.2.1,fun hn=>by
  obtain⟨ad,e,hb,hc⟩:=h.2.2.2 hn;have hx:xs[0]?=some (xs[0]'(by have:=h.1;omega)):=List.getElem?_eq_getElem (by have:=h.1;omega);have hne:=d9x k.box (hc 0 _ hx);rw[a0g] at hne
  exact⟨ad,e,by have:=k.size;omega,fun j u hu=>(k.cell _ (by rw[a0g];exact hne)).trans (hc j u hu)⟩⟩
theorem b0g.keepB {na ca:Nat}{B:Option Addr}{nb cb:Nat}{C:Option Addr}{nc cc:Nat}(h:b0g w nd A na ca B nb cb C nc cc)(k:d3t w w' g):b0g w' nd A na ca B nb cb C nc cc :=
 ⟨h.ia,h.ib,h.ic,h.inA.keepB k,h.inB.keepB k,h.inC.keepB k,h.op,h.n,h.how,h.note⟩
theorem Nods.keepB {N:List a0s}(h:Nods w A n N)(k:d3t w w' g):Nods w' A n N :=
 ⟨h.1,h.2.1,fun j nd hj=>by
  obtain⟨a,S,na,ca,B,nb,cb,C,nc,cc,e,hl,c0,c1,c2,c3,c4,c5,c6,hN⟩:=h.2.2 j nd hj;have hne:=d9x k.box c0;have hne' : a.block≠g:=by rwa [a0g] at hne
  have hk:∀ i:Nat,(⟨(a.add (j*7)).block,(a.add (j*7)).off+i,none⟩:Addr).block≠g:=fun i=>hne
  exact⟨a,S,na,ca,B,nb,cb,C,nc,cc,e,by have:=k.size;omega,(k.cell _ hne).trans c0,(k.cell _ (hk 1)).trans c1,(k.cell _ (hk 2)).trans c2,(k.cell _ (hk 3)).trans c3,(k.cell _ (hk 4)).trans c4,(k.cell _ (hk 5)).trans c5,(k.cell _ (hk 6)).trans c6,hN.keepB k⟩⟩
theorem a2c.keepB (h:a2c w v G)(k:d3t w w' g):a2c w' v G:=by
 obtain⟨A,na,ca,B,nb,cb,C,nc,cc,e,hL⟩:=h;exact⟨A,na,ca,B,nb,cb,C,nc,cc,e,⟨hL.ia,hL.ib,hL.ic,hL.inA.keepB k,hL.inB.keepB k,hL.inC.keepB k,hL.names⟩⟩
theorem c1o (h:GBox w g)(a b c d:Value):d3t w ((((w.setCell ⟨g,0,none⟩ a).setCell ⟨g,1,none⟩ b).setCell ⟨g,2,none⟩ c).setCell ⟨g,3,none⟩ d) g:=by
 refine⟨h,fun p hp=>?_,by simp⟩;have hne:∀ j,(⟨g,j,none⟩:Addr)≠p:=fun j e=>hp (by rw[←e])
 rw[World.cell?_setCell_other _ _ _ _ (hne 3),World.cell?_setCell_other _ _ _ _ (hne 2),World.cell?_setCell_other _ _ _ _ (hne 1),World.cell?_setCell_other _ _ _ _ (hne 0)]
theorem FewG.more {q r:Nat}(h:FewG q G)(hr:q≤r):FewG r G :=
 ⟨by have:=h.nodes;omega,by have:=h.sizes;omega,by have:=h.outs;omega,fun j nd hj=>by
  have:=h.each j nd hj
  exact⟨by have:=this.1;omega,by have:=this.2.1;omega,by have:=this.2.2;omega⟩⟩
theorem e0t {L:List c3i}(h:a2c w v G)(hs:FewG 10 G)(hL:d1f w A n L):
  Calls prog 14 #[v,.slice A n c] w fun e w'=>(∃ v', e=.returned v'∧∃ G', a2c w' v' G'∧FewG 20 G')∧Below w.heap.size w w':=by
 obtain⟨A0,na,ca,B0,nb,cb,C0,nc,cc,rfl,hl⟩:=h;have h1:=((Sep.nil w).allocBox w.heap.size 25 [.slice A0 na ca,.string G.names,.slice B0 nb cb,.slice C0 nc cc] rfl).allocBox (w.heap.size+1) 25 zG (by simp);have hG0:a2c w (.agg #[.slice A0 na ca,.string G.names,.slice B0 nb cb,.slice C0 nc cc]) G:=⟨_,_,_,_,_,_,_,_,_,rfl,hl⟩;have HG0:=Hd hG0;have HS:=Hd hs;have HL:=Hd hL;have hn:=hL.2.1;clear hL hs hl hG0
 go_enter func14,ntmps14
 go_upto_region 1 with fail
 generalize (w.alloc (.cells #[.slice A0 na ca,.string G.names,.slice B0 nb cb,.slice C0 nc cc] 25)).alloc (.cells zH 25)=W at *;have H:=Hd h1;clear h1;have HG1:=Hd (HG0.below H.base)
 go_wp2_with fail
 go_loopw [5] (fun iv wr=>∃(i:Nat) (A1:Option Addr) (na1 ca1:Nat) (nm:ByteArray) (B1:Option Addr) (nb1 cb1:Nat) (C1:Option Addr) (nc1 cc1:Nat) (G1:a3n),iv=.int .i64 i∧i≤4∧a2c wr (.agg #[.slice A1 na1 ca1,.string nm,.slice B1 nb1 cb1,.slice C1 nc1 cc1]) G1∧FewG (10+i) G1 ∧
  Sep w wr [.box (w.heap.size+1) 25 zG,.box w.heap.size 25 [.slice A1 na1 ca1,.string nm,.slice B1 nb1 cb1,.slice C1 nc1 cc1]]) (fun iv _=>4-(intOf iv).toNat)
 case atStart=>exact⟨0,_,_,_,_,_,_,_,_,_,_,G,rfl,by omega,HG1,HS,H⟩
 case round =>
  clear H HG1;obtain⟨i,A1,na1,ca1,nm,B1,nb1,cb1,C1,nc1,cc1,G1,rfl,hi4,hG,hF,hS⟩:=hrel;have H:=Hd hS;have HG:=Hd hG;have HF:=Hd hF;clear hS hG hF;by_cases hin:i<n∧i<4
  ·obtain⟨hin1,hin2⟩:=hin;have d1:decide (i<n)=true:=by simpa using hin1
   have d2:decide (i<4)=true:=by simpa using hin2
   obtain⟨t,ht⟩:∃ t,L[i]?=some t:=gE (by have:=HL.out.1;omega);obtain⟨ok,a,hAa,hab,t0,t1,t2,t3,t4⟩:=(HL.below H.base).2.2 i t ht;subst hAa;have HOK:=Hd ok;have HTT:=Hd ht;clear ht ok hab;have CO:=e0x (t:=t) (HG.below ((Below.refl _ _).drew)) HF (by omega) HOK;unfold b5i at CO;have HCO:=Hd CO;clear CO
   have HTS:Hid (∀ w9:World,Below w.heap.size w w9→(w9.cell? (a.add (i*5))=some (.int .i64 t.what)∧w9.cell? ⟨(a.add (i*5)).block,(a.add (i*5)).off+1,none⟩=some (.int .i64 t.node)∧w9.cell? ⟨(a.add (i*5)).block,(a.add (i*5)).off+2,none⟩=some (.int .i64 t.at_)∧w9.cell? ⟨(a.add (i*5)).block,(a.add (i*5)).off+3,none⟩=some (.int .i64 t.n)∧w9.cell? ⟨(a.add (i*5)).block,(a.add (i*5)).off+4,none⟩=some (.string t.text))):=Hd fun w9 h9=>by
    obtain⟨_,a', ea,_,u0,u1,u2,u3,u4⟩:=(HL.below h9).2.2 i t HTT;injection ea with ea
    subst ea;exact⟨u0,u1,u2,u3,u4⟩
   clear t0 t1 t2 t3 t4;obtain⟨t0,t1,t2,t3,t4⟩:=HTS.out _ H.drew.base
   go_upto_region 4 with fail
   refine wp_region_held_drew (S:=(fun w'=>w'.cell? (a.add (i*5))=some (.int .i64 t.what)∧w'.cell? ⟨(a.add (i*5)).block,(a.add (i*5)).off+1,none⟩=some (.int .i64 t.node)∧w'.cell? ⟨(a.add (i*5)).block,(a.add (i*5)).off+2,none⟩=some (.int .i64 t.at_)∧w'.cell? ⟨(a.add (i*5)).block,(a.add (i*5)).off+3,none⟩=some (.int .i64 t.n)∧w'.cell? ⟨(a.add (i*5)).block,(a.add (i*5)).off+4,none⟩=some (.string t.text))) (by kernel_rfl) ?_ (fun hq_=>?_)
   ·exact⟨t0,t1,t2,t3,t4⟩
   refine zV 1 hq_ ?_;refine zV 2 hq_ ?_;refine zV 3 hq_ ?_;refine zV 4 hq_ ?_;refine e1 0 fun K hK=>?_
   (obtain⟨b0,b1,b2,b3⟩:=H.drew.z4 1 rfl)
   go_simp;(try go_wp2_with fail);refine zX hK (fun hq_=>?_) ⟨t0,t1,t2,t3,t4⟩;refine e1 5 fun K hK=>?_
   first|(refine effU ?_ ?_;(focus rfl))|(go_simp;(go_at_call 32;refine HCO.mono ?_;rintro e5 z5 ⟨⟨v5,rfl,G5,hG5,hF5⟩,hb5⟩;have H5:=Hd (H.drew.below hb5);have HG5:=Hd hG5;have HF5:=Hd hF5;obtain⟨A5,na5,ca5,B5,nb5,cb5,C5,nc5,cc5,rfl,_⟩:=hG5;clear hb5 hF5;obtain⟨u0,u1,u2,u3,u4⟩:=HTS.out _ H5.base);go_wp2_with fail)
   refine zX hK (fun hq_=>?_) ⟨u0,u1,u2,u3,u4⟩;refine e1 6 fun K hK=>?_
   (obtain⟨c0,c1,c2,c3⟩:=H5.z4 1 rfl;obtain⟨f0,f1,f2,f3⟩:=H5.f4 1 rfl;have HSS:=Hd ((((H5.setBox 1 0 (.slice A5 na5 ca5) rfl).setBox 1 1 (.string G5.names) rfl).setBox 1 2 (.slice B5 nb5 cb5) rfl).setBox 1 3 (.slice C5 nc5 cc5) rfl);have HG6:=Hd (HG5.keepB (c1o (show GBox z5 w.heap.size from⟨_,_,_,_,_,_,_,_,_,_,_,_,H5.heap 1 rfl⟩) (.slice A5 na5 ca5) (.string G5.names) (.slice B5 nb5 cb5) (.slice C5 nc5 cc5)));obtain⟨x0,x1,x2,x3,x4⟩:=HTS.out _ HSS.base)
   go_simp;(try go_wp2_with fail);refine zX hK (fun hq_=>?_) ⟨x0,x1,x2,x3,x4⟩;refine dN ?_;go_wp2;go_roundw
   case rel=>exact⟨i+1,_,_,_,_,_,_,_,_,_,_,G5,by go_num,by omega,HG6,HF5,HSS⟩
   case measure=>simp[intOf];omega
  ·obtain⟨b0,b1,b2,b3⟩:=H.z4 1 rfl;obtain⟨r0,r1,r2,r3⟩:=H.cells4 0 rfl;obtain⟨f0,f1,f2,f3⟩:=H.f4 0 rfl;have HSS:=Hd ((((H.setBox 0 0 (.slice A1 na1 ca1) rfl).setBox 0 1 (.string nm) rfl).setBox 0 2 (.slice B1 nb1 cb1) rfl).setBox 0 3 (.slice C1 nc1 cc1) rfl);have HG6:=Hd (HG.keepB (c1o (show GBox wr (w.heap.size+1) from⟨_,_,_,_,_,_,_,_,_,_,_,_,H.heap 0 rfl⟩) (.slice A1 na1 ca1) (.string nm) (.slice B1 nb1 cb1) (.slice C1 nc1 cc1)));have hF6:=HF.more (show 10+i≤20 by omega);by_cases h1:i<n
   ·have d1:decide (i<n)=true:=by simpa using h1
    have d2:decide (i<4)=false:=by simp;omega
    go_wp2;exact a8w (v0:=.slice A1 na1 ca1) (v1:=.string nm) (v2:=.slice B1 nb1 cb1) (v3:=.slice C1 nc1 cc1) HSS 0 rfl results14 rfl rfl ⟨⟨_,rfl,G1,HG6,hF6⟩,HSS.base⟩
   ·have d1:decide (i<n)=false:=by simpa using h1
    go_wp2;exact a8w (v0:=.slice A1 na1 ca1) (v1:=.string nm) (v2:=.slice B1 nb1 cb1) (v3:=.slice C1 nc1 cc1) HSS 0 rfl results14 rfl rfl ⟨⟨_,rfl,G1,HG6,hF6⟩,HSS.base⟩
theorem d2y (hn:4<n)(hc:n≤c)(hA:∃ a,A=some a):∀ w,(Instr.slice 28 (.slice A n c) none (some (.int .i64 4)) none).run prog w=.ok (.slice A 4 c) w:=by
 intro w;have hu:prog.underlying 28=some (.slice 33):=by kernel_rfl
 have hkc:4≤c:=by omega
 obtain⟨a,rfl⟩:=hA
 go_simp
 intro hx;omega
theorem c5c {A0 A1 Au:Option Addr}{n0 c0 n1 c1 nu cu:Nat}{ys:List Int}{U:List c3i}{vn:Value}{A4:Option Addr}{n4 c4:Nat}{L4:TL}(hI:Ints w A0 n0 xs)(hJ:Ints w A1 n1 ys)(hU:d1f w Au nu U)(hN:a4a w vn nd)
  (hl4:L4.length=n4)(hk4:n4≤c4)(hb4:n4≤17592186043904)(hT4:∀ m,m≤n4→m≤1000000→Tens w A4 m (L4.take m)):
  Calls prog 4 #[.slice A0 n0 c0,.slice A1 n1 c1,.slice Au nu cu,vn,.slice A4 n4 c4] w fun e w'=>e=.returned (.bool true)∧Below w.heap.size w w':=by
 have HN:=Hd hN;obtain⟨A9,na9,ca9,B9,nb9,cb9,C9,nc9,cc9,rfl,hNL⟩:=hN;clear hNL;have h1:=(Sep.nil w).allocBox w.heap.size 38 [.int .i64 nd.op,.slice A9 na9 ca9,.slice B9 nb9 cb9,.slice C9 nc9 cc9,.int .i64 nd.n,.int .i64 nd.how,.string nd.note] rfl;have HI:=Hd hI;have HJ:=Hd hJ;have HU:=Hd hU;have HT4:=Hd hT4;have HL4:=Hd hl4;clear hI hJ hU hT4 hl4
 go_enter func4,ntmps4
 go_upto_region 1 with fail
 generalize w.alloc (.cells #[.int .i64 nd.op,.slice A9 na9 ca9,.slice B9 nb9 cb9,.slice C9 nc9 cc9,.int .i64 nd.n,.int .i64 nd.how,.string nd.note] 38)=w0 at *;have H:=Hd h1;clear h1;have C1:=c3l (c:=c0) (HI.below H.base)
 go_wp2_with fail
 refine C1.mono ?_;rintro e1 w1 ⟨⟨v,rfl,hG⟩,hb1⟩;replace H:=Hd (H.below hb1);have HG:=Hd hG;obtain⟨G,hGd⟩:∃ G,a0o xs=G:=⟨_,rfl⟩;rw[hGd] at HG;have HGD:=Hd hGd;have HF:=Hd (b9o xs);rw[hGd] at HF;have HSM:Hid (a7y 800 G):=Hd (by have h9:=a9u xs;rw[hGd] at h9;exact h9);clear hG hGd C1 hb1;obtain⟨A,na,ca,B,nb,cb,C,nc,cc,hv,hL⟩:=HG.out;subst hv;clear hL;have h2:=H.allocBox w1.heap.size 25 [.slice A na ca,.string G.names,.slice B nb cb,.slice C nc cc] rfl;have HG1:Hid (a2c (w1.alloc (.cells #[.slice A na ca,.string G.names,.slice B nb cb,.slice C nc cc] 25)) (.agg #[.slice A na ca,.string G.names,.slice B nb cb,.slice C nc cc]) G):=Hd (HG.below ((Below.refl _ _).alloc (Nat.le_refl _) _))
 go_upto_region 2 with fail
 generalize w1.alloc (.cells #[.slice A na ca,.string G.names,.slice B nb cb,.slice C nc cc] 25)=w2 at *;replace H:=Hd h2;clear h2;obtain⟨g0,g1,g2,g3⟩:=H.cells4 0 rfl;have C2:=e0t (c:=cu) HG1 HF (HU.below H.base)
 go_wp2_with fail
 refine C2.mono ?_;rintro e2 w3 ⟨⟨v2,rfl,G2,hG2,hF2⟩,hb2⟩;replace H:=Hd (H.below hb2);replace HG1:=Hd (HG1.below hb2);have HG2:=Hd hG2;have HSM2:=Hd (show a7y 800 G2 from fun j nd hj=>Nat.le_trans (hF2.small j nd hj) (by omega));clear C2 hb2 hF2 hG2 g0 g1 g2 g3;obtain⟨A2,na2,ca2,B2,nb2,cb2,C2,nc2,cc2,hv,hL⟩:=HG2.out;subst hv;clear hL;have h3:=H.allocBox w3.heap.size 25 [.slice A2 na2 ca2,.string G2.names,.slice B2 nb2 cb2,.slice C2 nc2 cc2] rfl;have hba:Below w3.heap.size w3 (w3.alloc (.cells #[.slice A2 na2 ca2,.string G2.names,.slice B2 nb2 cb2,.slice C2 nc2 cc2] 25)):=(Below.refl _ _).alloc (Nat.le_refl _) _;replace HG1:=Hd (HG1.below hba);replace HG2:=Hd (HG2.below hba);clear hba
 go_upto_region 3 with fail
 generalize w3.alloc (.cells #[.slice A2 na2 ca2,.string G2.names,.slice B2 nb2 cb2,.slice C2 nc2 cc2] 25)=w4 at *;replace H:=Hd h3;clear h3
 go_upto_if 20 with fail
 go_cut [4] (fun q wx=>∃ m:Nat,q=.slice A4 m c4∧m≤4∧m≤n4∧w4=wx)
 case first =>
  by_cases h4:4<n4
  ·have d4:decide (4<n4)=true:=by simpa using h4
   have hA4:∃ a,A4=some a:=by
    obtain⟨x,hx⟩:∃ x,L4[0]?=some x:=gE (by have:=HL4.out;omega);obtain⟨a,_,_,_,_,_,_,ha,_⟩:=(HT4 1 (by omega) (by omega)).2.2 0 x (by rw[List.getElem?_take,iP (by omega)];exact hx);exact⟨a,ha⟩
   have hrun:=d2y h4 hk4 hA4
   go_wp2_with fail
   go_meet;exact⟨4,rfl,by omega,by omega,rfl⟩
  ·have d4:decide (4<n4)=false:=by simpa using h4
   go_wp2_with fail
   go_meet;exact⟨n4,rfl,by omega,by omega,rfl⟩
 case rest =>
  obtain⟨m,rfl,hm4,hmn,rfl⟩:=hcut;have HTM:=Hd ((HT4 m hmn (by omega)).below H.base);have hmc:m≤c4:=by omega
  go_upto_region 5 with fail
  have D0:=Hd H.drew;have E0:=Hd (a0w (Below.refl w4.heap.size w4) 1);obtain⟨q0_0,q0_1,q0_2,q0_3⟩:=D0.cells4 1 rfl;obtain⟨q0_4,q0_5,q0_6,q0_7⟩:=D0.cells4 0 rfl;obtain⟨q0_8,q0_9,q0_10,q0_11,q0_12,q0_13,q0_14⟩:=D0.cells7 2 rfl;refine wp_region_held_drew (S:=(fun w'=>w'.cell? ⟨w1.heap.size,0,none⟩=some (.slice A na ca)∧w'.cell? ⟨w1.heap.size,1,none⟩=some (.string G.names)∧w'.cell? ⟨w1.heap.size,2,none⟩=some (.slice B nb cb)∧w'.cell? ⟨w1.heap.size,3,none⟩=some (.slice C nc cc)∧w'.cell? ⟨w3.heap.size,0,none⟩=some (.slice A2 na2 ca2)∧w'.cell? ⟨w3.heap.size,1,none⟩=some (.string G2.names)∧w'.cell? ⟨w3.heap.size,2,none⟩=some (.slice B2 nb2 cb2)∧w'.cell? ⟨w3.heap.size,3,none⟩=some (.slice C2 nc2 cc2)∧w'.cell? ⟨w.heap.size,0,none⟩=some (.int .i64 nd.op)∧w'.cell? ⟨w.heap.size,1,none⟩=some (.slice A9 na9 ca9)∧w'.cell? ⟨w.heap.size,2,none⟩=some (.slice B9 nb9 cb9)∧w'.cell? ⟨w.heap.size,3,none⟩=some (.slice C9 nc9 cc9)∧w'.cell? ⟨w.heap.size,4,none⟩=some (.int .i64 nd.n)∧w'.cell? ⟨w.heap.size,5,none⟩=some (.int .i64 nd.how)∧w'.cell? ⟨w.heap.size,6,none⟩=some (.string nd.note))) (by kernel_rfl) ?_ (fun hq_=>?_)
  ·exact⟨q0_0,q0_1,q0_2,q0_3,q0_4,q0_5,q0_6,q0_7,q0_8,q0_9,q0_10,q0_11,q0_12,q0_13,q0_14⟩
  refine zV 0 hq_ ?_;refine zV 1 hq_ ?_;refine zV 2 hq_ ?_;refine e1 3 fun K hK=>?_
  first|(refine effU ?_ ?_;(focus rfl))|(go_simp;(go_at_call 9;refine(a8g (ys:=xs) (c0:=c1) (by rw[HGD.out];exact HG1.below E0) (HJ.below D0.base)).mono ?_;rintro e1 y1 ⟨⟨At,nt,ct,P,rfl,hct,hnt,hF1,hT⟩,hb1⟩;have D1:=Hd (D0.below hb1);have E1:=Hd (a1m E0 hb1);have HTA:=Hd (hT _ none (a3c (Below.refl _ _) none) (by simp));clear hT hF1;clear hb1;obtain⟨q1_0,q1_1,q1_2,q1_3⟩:=D1.z4 1 rfl;obtain⟨q1_4,q1_5,q1_6,q1_7⟩:=D1.z4 0 rfl;obtain⟨q1_8,q1_9,q1_10,q1_11,q1_12,q1_13,q1_14⟩:=D1.cells7 2 rfl);go_wp2_with fail)
  refine zX hK (fun hq_=>?_) ⟨q1_0,q1_1,q1_2,q1_3,q1_4,q1_5,q1_6,q1_7,q1_8,q1_9,q1_10,q1_11,q1_12,q1_13,q1_14⟩;refine e1 4 fun K hK=>?_
  first|(refine effU ?_ ?_;(focus rfl))|(go_simp;(go_at_call 10;refine(a4b (ct:=ct) (HG1.below E1) HSM (HTA)).mono ?_;rintro e2 y2 ⟨rfl,hb2⟩;have D2:=Hd (D1.below hb2);have E2:=Hd (a1m E1 hb2);clear hb2;obtain⟨q2_0,q2_1,q2_2,q2_3⟩:=D2.z4 1 rfl;obtain⟨q2_4,q2_5,q2_6,q2_7⟩:=D2.z4 0 rfl;obtain⟨q2_8,q2_9,q2_10,q2_11,q2_12,q2_13,q2_14⟩:=D2.cells7 2 rfl);go_wp2_with fail)
  refine zX hK (fun hq_=>?_) ⟨q2_0,q2_1,q2_2,q2_3,q2_4,q2_5,q2_6,q2_7,q2_8,q2_9,q2_10,q2_11,q2_12,q2_13,q2_14⟩;refine zV 5 hq_ ?_;refine zT 6 hq_ ?_;refine zT 7 hq_ ?_;refine zT 8 hq_ ?_;refine e1 9 fun K hK=>?_
  first|(refine effU ?_ ?_;(focus rfl))|(go_simp;(go_at_call 9;refine(a8g (ys:=xs) (c0:=c1) (by rw[HGD.out];exact HG1.below E2) (HJ.below D2.base)).mono ?_;rintro e3 y3 ⟨⟨Bt,mt,dt,Q,rfl,hdt,hmt,hF3,hT⟩,hb3⟩;have D3:=Hd (D2.below hb3);have E3:=Hd (a1m E2 hb3);have HTB:=Hd (hT _ none (a3c (Below.refl _ _) none) (by simp));clear hT hF3;clear hb3;obtain⟨q3_0,q3_1,q3_2,q3_3⟩:=D3.z4 1 rfl;obtain⟨q3_4,q3_5,q3_6,q3_7⟩:=D3.z4 0 rfl;obtain⟨q3_8,q3_9,q3_10,q3_11,q3_12,q3_13,q3_14⟩:=D3.cells7 2 rfl);go_wp2_with fail)
  refine zX hK (fun hq_=>?_) ⟨q3_0,q3_1,q3_2,q3_3,q3_4,q3_5,q3_6,q3_7,q3_8,q3_9,q3_10,q3_11,q3_12,q3_13,q3_14⟩;refine e1 10 fun K hK=>?_
  first|(refine effU ?_ ?_;(focus rfl))|(go_simp;(go_at_call 10;refine(a4b (ct:=dt) (HG2.below E3) HSM2 (HTB)).mono ?_;rintro e4 y4 ⟨rfl,hb4⟩;have D4:=Hd (D3.below hb4);have E4:=Hd (a1m E3 hb4);clear hb4;obtain⟨q4_0,q4_1,q4_2,q4_3⟩:=D4.z4 1 rfl;obtain⟨q4_4,q4_5,q4_6,q4_7⟩:=D4.z4 0 rfl;obtain⟨q4_8,q4_9,q4_10,q4_11,q4_12,q4_13,q4_14⟩:=D4.cells7 2 rfl);go_wp2_with fail)
  refine zX hK (fun hq_=>?_) ⟨q4_0,q4_1,q4_2,q4_3,q4_4,q4_5,q4_6,q4_7,q4_8,q4_9,q4_10,q4_11,q4_12,q4_13,q4_14⟩;refine zV 11 hq_ ?_;refine zV 12 hq_ ?_;refine zT 13 hq_ ?_;refine zT 14 hq_ ?_;refine e1 15 fun K hK=>?_
  first|(refine effU ?_ ?_;(focus rfl))|(go_simp;(go_at_call 10;refine(a4b (ct:=c4) (HG1.below E4) HSM (HTM.below E4)).mono ?_;rintro e5 y5 ⟨rfl,hb5⟩;have D5:=Hd (D4.below hb5);have E5:=Hd (a1m E4 hb5);clear hb5;obtain⟨q5_0,q5_1,q5_2,q5_3⟩:=D5.z4 1 rfl;obtain⟨q5_4,q5_5,q5_6,q5_7⟩:=D5.z4 0 rfl;obtain⟨q5_8,q5_9,q5_10,q5_11,q5_12,q5_13,q5_14⟩:=D5.cells7 2 rfl);go_wp2_with fail)
  refine zX hK (fun hq_=>?_) ⟨q5_0,q5_1,q5_2,q5_3,q5_4,q5_5,q5_6,q5_7,q5_8,q5_9,q5_10,q5_11,q5_12,q5_13,q5_14⟩;refine zV 16 hq_ ?_;refine zV 17 hq_ ?_;refine zT 18 hq_ ?_;refine zT 19 hq_ ?_;refine e1 20 fun K hK=>?_
  first|(refine effU ?_ ?_;(focus rfl))|(go_simp;(go_at_call 12;refine(a9s (ct:=c4) (HN.below D5.base) (HTM.below E5)).mono ?_;rintro e6 y6 ⟨rfl,hb6⟩;have D6:=Hd (D5.below hb6);have E6:=Hd (a1m E5 hb6);clear hb6;obtain⟨q6_0,q6_1,q6_2,q6_3⟩:=D6.z4 1 rfl;obtain⟨q6_4,q6_5,q6_6,q6_7⟩:=D6.z4 0 rfl;obtain⟨q6_8,q6_9,q6_10,q6_11,q6_12,q6_13,q6_14⟩:=D6.cells7 2 rfl);go_wp2_with fail)
  refine zX hK (fun hq_=>?_) ⟨q6_0,q6_1,q6_2,q6_3,q6_4,q6_5,q6_6,q6_7,q6_8,q6_9,q6_10,q6_11,q6_12,q6_13,q6_14⟩;refine zV 21 hq_ ?_;refine zV 22 hq_ ?_;refine e1 23 fun K hK=>?_
  first|(refine effU ?_ ?_;(focus rfl))|(go_simp;(go_at_call 13;refine(a7z _).mono ?_;rintro e7 y7 ⟨rfl,hb7⟩;have D7:=Hd (D6.below hb7);have E7:=Hd (a1m E6 hb7);clear hb7;obtain⟨q7_0,q7_1,q7_2,q7_3⟩:=D7.z4 1 rfl;obtain⟨q7_4,q7_5,q7_6,q7_7⟩:=D7.z4 0 rfl;obtain⟨q7_8,q7_9,q7_10,q7_11,q7_12,q7_13,q7_14⟩:=D7.cells7 2 rfl);go_wp2_with fail)
  refine zX hK (fun hq_=>?_) ⟨q7_0,q7_1,q7_2,q7_3,q7_4,q7_5,q7_6,q7_7,q7_8,q7_9,q7_10,q7_11,q7_12,q7_13,q7_14⟩;refine zV 24 hq_ ?_;refine zV 25 hq_ ?_;refine dN ?_;go_wp2;go_ret;exact⟨by trivial,D7.base⟩
end Go.Proofs.YtjblengklgkgfaaGreat
namespace Go.Proofs.YtjblengklgkgfaaGreat
open Go.ChangeShapes Go.WideShapes Go.ChangeAt Go.RowKit Go.Joins Go.Deep Go.Proofs.Tryz
variable {c v:Value} {cs:List Value} {e e1 t:TypeId} {fuel:Nat}
theorem c7u {α : Type}(P:Nat → α → Prop):∀(n:Nat),(∀ j,j<n→∃ x,P j x)→∃ L:List α,L.length=n∧∀ j x,L[j]?=some x→P j x
 | 0,_=>⟨[],rfl,fun j x h=>by simp at h⟩
 | n+1,h=>by
  obtain⟨L,hl,hL⟩:=c7u P n (fun j hj=>h j (by omega));obtain⟨x,hx⟩:=h n (by omega);refine⟨L++[x],by simp[hl],fun j y hy=>?_⟩;rcases Nat.lt_or_ge j L.length with hj|hj
  ·rw[List.getElem?_append_left hj] at hy;exact hL j y hy
  ·rw[List.getElem?_append_right hj] at hy
   obtain rfl:j=L.length:=by
    rcases Nat.eq_or_lt_of_le hj with e|e
    ·exact e.symm
    ·obtain⟨m,hm⟩:∃ m,j-L.length=m+1:=⟨j-L.length-1,by omega⟩;rw[hm] at hy;simp at hy
   simp at hy;subst hy;rw[hl];exact hx
theorem c6k {i:Nat}(h:cs[i]?=some c):(cs.drop i).take 1=[c]:=by
 obtain⟨hi,rfl⟩:=List.getElem?_eq_some_iff.1 h;rw[List.drop_eq_getElem_cons hi];rfl
section
variable {H : Type} {enc : TypeId × Value → H} {P : Program} {W : World} {r : Reach} {b0 : Nat}
theorem b0j {e:TypeId}{d:DataW H}:∀ {l:List (DataW H)},d∈l→∀ n∈d.weights P e,n∈DataW.weightsAll P e l
 | d0::l,hd,n,hn=>by
  simp only[DataW.weightsAll,List.mem_append];rcases List.mem_cons.1 hd with rfl|hd
  ·exact .inl hn
  ·exact .inr (b0j hd n hn)
theorem b3t {fs:Array Field}{x:DataW H × List MemPlace}(hs:P.underlying t=some (.struct fs))(hone:oneCellFields P fs=true)(hC:P.cellsOf t=fs.size)
  (h:DataW.trod enc P W 0 (fun _=>true) true fuel t cs=some x)(hsz:∀ k∈x.1.weights P t,k≤reachBytes):
  cs.length=fs.size∧∀(i:Nat) (f:Field) (c:Value),fs[i]?=some f→cs[i]?=some c→∃ n y,DataW.trod enc P W 0 (fun _=>true) true n f.type [c]=some y∧∀ k∈y.1.weights P f.type,k≤reachBytes:=by
 obtain⟨xs,n,_,rfl,hl,hlen,hf⟩:=DataW.trod_struct hs h;refine⟨hl.trans hC,fun i f c hi hc=>?_⟩;obtain⟨o,k1⟩:=hone_of hone i f hi;have h1:=hf i f hi;rw[o,k1,c6k hc] at h1;have hix:i<xs.length:=by rw[hlen];exact(Array.getElem?_eq_some_iff.1 hi).1
 rw[List.getElem?_eq_getElem hix] at h1;refine⟨n,xs[i],h1,fun k hk=>hsz k ?_⟩;simp only[DataW.weights,hs];exact DataW.weights_mem_each (j:=i) (t:=f.type) (d:=(xs[i]).1) (by rw[List.getElem?_map,Array.getElem?_toList,hi];rfl) (by rw[List.getElem?_map,List.getElem?_eq_getElem hix];rfl) k hk
theorem c5e {k:Nat}{d:DataW H}{p:List MemPlace}(ht:P.underlying t=some (.slice e))(hk:P.cellsOf e=k)
  (hv:Value.okWide P W r b0 t v)(h:DataW.Trod enc P W 0 (fun _=>true) true t v d p)(hsz:∀ n∈d.weights P t,n≤reachBytes):
  ∃ a len cap,v=.slice a len cap∧len≤cap∧len*P.bytesOf e≤reachBytes∧∀ j,j<len→∃ ad cs n y,a=some ad∧cs.length=k∧(∀ i,i<k→W.cell? ((ad.add (j*k)).add i)=cs[i]?) ∧
   DataW.trod enc P W 0 (fun _=>true) true n e cs=some y∧∀ m∈y.1.weights P e,m≤reachBytes:=by
 obtain⟨a,len,cap,rfl⟩:=okWide_slice ht hv;obtain⟨fuel,hf⟩:=h;rcases open_slice (x:=(d,p)) ht (by simpa [Value.cells] using hf) with ⟨hcs,hx⟩|⟨ad,l,c,m,n,D,Pl,hcs,_,hl,hm,hmm,hx,hel⟩
 ·simp at hcs;obtain⟨rfl,rfl,rfl⟩:=hcs;exact⟨none,0,0,rfl,Nat.le_refl _,by simp,fun j hj=>absurd hj (by omega)⟩
 ·simp at hcs;obtain⟨rfl,rfl,rfl⟩:=hcs;simp only[Prod.mk.injEq] at hx;have hle:len≤m:=by rw[hmm];split <;> omega
  have hd:=hx.1;subst hd;simp only[DataW.weights,ht] at hsz;have h0:=hsz _ (List.mem_cons_self ..);simp only[List.length_map,List.length_range] at h0;refine⟨_,len,cap,rfl,hl,Nat.le_trans (Nat.mul_le_mul_right _ (by omega)) h0,fun j hj=>?_⟩;obtain⟨cs', hcs', htr⟩:=hel j (by omega);rw[hk] at hcs';obtain⟨_,hlen,hcell⟩:=World.cells?_some hcs';refine⟨ad,cs', n,_,rfl,hlen,hcell,htr,fun q hq=>hsz q (List.mem_cons_of_mem _ (List.mem_append_left _ (b0j (d:=D j) ?_ q hq)))⟩;exact List.mem_map.2 ⟨j,List.mem_range.2 hj,rfl⟩
theorem a4w {y:DataW H × List MemPlace}(h0:P.underlying t=some (.slice e))(g0:P.underlying e=some (.int .i64))(c0:P.cellsOf e=1)(y0:P.bytesOf e=8)
  (h:DataW.trod enc P W 0 (fun _=>true) true fuel t [c]=some y)(hsz:∀ n∈y.1.weights P t,n≤reachBytes):
  ∃ a n k xs,c=.slice a n k∧n≤k∧n≤17592186043904∧Ints W a n xs:=by
 obtain⟨a,n,k,e'⟩:=slice_form h0 h;simp only[List.cons.injEq,and_true] at e';subst e';obtain⟨z,i0,i1,i2⟩:=c9c h0 g0 c0 y0 h hsz;exact⟨a,n,k,_,rfl,i2,i1,a5h i0⟩
theorem b2m {y:DataW H × List MemPlace}(h0:P.underlying t=some .string)(h:DataW.trod enc P W 0 (fun _=>true) true fuel t [c]=some y)(hsz:∀ n∈y.1.weights P t,n≤reachBytes):∃ s:ByteArray,c=.string s∧s.size≤140737488351232:=by
 obtain⟨s,e,rfl,_⟩:=DataW.trod_string h0 h;simp only[List.cons.injEq,and_true] at e;refine⟨s,e,?_⟩;have:=hsz s.data.toList.length (by simp[DataW.weights]);simpa [reachBytes] using this
theorem a4c {y:DataW H × List MemPlace}(h0:P.underlying t=some (.int .i64))(h:DataW.trod enc P W 0 (fun _=>true) true fuel t [c]=some y):∃ x:Int,c=.int .i64 x∧Fits x:=by
 obtain⟨n,e,_,hw⟩:=DataW.trod_int h0 h;simp only[List.cons.injEq,and_true] at e;exact⟨n,e,bounds_i64 hw⟩
theorem c2j {e0:TypeId}{f0 f1:Field}{d:DataW H}{p:List MemPlace}(ht:P.underlying t=some (.slice e))(hs:P.underlying e=some (.struct #[f0,f1]))(hone:oneCellFields P #[f0,f1]=true)(hC:P.cellsOf e=2)(hB:P.bytesOf e=48)
  (h0:P.underlying f0.type=some (.slice e0))(h1:P.underlying f1.type=some (.slice e1))(g0:P.underlying e0=some (.int .i64))(g1:P.underlying e1=some (.int .i64))
  (c0:P.cellsOf e0=1)(c1:P.cellsOf e1=1)(y0:P.bytesOf e0=8)(y1:P.bytesOf e1=8)
  (hv:Value.okWide P W r b0 t v)(h:DataW.Trod enc P W 0 (fun _=>true) true t v d p)(hsz:∀ n∈d.weights P t,n≤reachBytes):
  ∃(a:Option Addr) (len cap:Nat) (L:List (List Int × List Int)),v=.slice a len cap∧len≤cap∧len≤17592186043904∧L.length=len∧∀ m,m≤len→m≤1000000→Tens W a m (L.take m):=by
 obtain⟨a,len,cap,rfl,hl,hb,hel⟩:=c5e ht hC hv h hsz;rw[hB] at hb;have hb2:len≤17592186043904:=by unfold reachBytes at hb;omega
 have each:∀ j,j<len→∃ x:List Int × List Int,∃ ad S sn sc D dn dc,a=some ad∧ad.block<W.heap.size∧W.cell? (ad.add (j*2))=some (.slice S sn sc)∧W.cell? ⟨(ad.add (j*2)).block,(ad.add (j*2)).off+1,none⟩=some (.slice D dn dc)∧Ten W (.agg #[.slice S sn sc,.slice D dn dc]) x.1 x.2:=by
  intro j hj;obtain⟨ad,cs,n,y,ha,hlen,hcell,htr,hw⟩:=hel j hj;obtain⟨_,hf⟩:=b3t hs hone (by rw[hC];rfl) htr hw;have k0:cs[0]?=some cs[0]:=List.getElem?_eq_getElem (by omega);have k1:cs[1]?=some cs[1]:=List.getElem?_eq_getElem (by omega);obtain⟨n0,z0,t0,w0⟩:=hf 0 f0 _ rfl k0;obtain⟨n1,z1,t1,w1⟩:=hf 1 f1 _ rfl k1;obtain⟨S,sn,sc,xs,e0', q0,_,hI⟩:=a4w h0 g0 c0 y0 t0 w0;obtain⟨D,dn,dc,ys,e1', q1,_,hJ⟩:=a4w h1 g1 c1 y1 t1 w1;have m0:=(hcell 0 (by omega)).trans k0;have m1:=(hcell 1 (by omega)).trans k1;rw[e0'] at m0;rw[e1'] at m1;have hz:(ad.add (j*2)).add 0=ad.add (j*2):=by cases (ad.add (j*2));rfl
  have ho:(ad.add (j*2)).add 1=⟨(ad.add (j*2)).block,(ad.add (j*2)).off+1,none⟩:=by simp[Addr.add]
  rw[hz] at m0;rw[ho] at m1;exact⟨(xs,ys),ad,S,sn,sc,D,dn,dc,ha,by have:=block_lt_of_cell m0;rwa [a0g] at this,m0,m1,S,sn,sc,D,dn,dc,rfl,q0,q1,hI,hJ⟩
 obtain⟨L,hL,hLe⟩:=c7u _ len each;refine⟨a,len,cap,L,rfl,hl,hb2,hL,fun m hm hm2=>⟨by rw[List.length_take];omega,hm2,fun j x hx=>?_⟩⟩;rw[List.getElem?_take] at hx
 split at hx
 ·exact hLe j x hx
 ·cases hx
theorem c0d {f0 f1 f2 f3 f4:Field}{d:DataW H}{p:List MemPlace}(ht:P.underlying t=some (.slice e))(hs:P.underlying e=some (.struct #[f0,f1,f2,f3,f4]))(hone:oneCellFields P #[f0,f1,f2,f3,f4]=true)(hC:P.cellsOf e=5)(hB:P.bytesOf e=48)
  (h0:P.underlying f0.type=some (.int .i64))(h1:P.underlying f1.type=some (.int .i64))(h2:P.underlying f2.type=some (.int .i64))(h3:P.underlying f3.type=some (.int .i64))(h4:P.underlying f4.type=some .string)
  (hv:Value.okWide P W r b0 t v)(h:DataW.Trod enc P W 0 (fun _=>true) true t v d p)(hsz:∀ n∈d.weights P t,n≤reachBytes):
  ∃ a len cap L,v=.slice a len cap∧len≤cap∧d1f W a len L:=by
 obtain⟨a,len,cap,rfl,hl,hb,hel⟩:=c5e ht hC hv h hsz;rw[hB] at hb;have hb2:len≤17592186044000:=by unfold reachBytes at hb;omega
 have each:∀ j,j<len→∃ x:c3i,d0a x∧∃ ad,a=some ad∧ad.block<W.heap.size∧W.cell? (ad.add (j*5))=some (.int .i64 x.what) ∧
   W.cell? ⟨(ad.add (j*5)).block,(ad.add (j*5)).off+1,none⟩=some (.int .i64 x.node)∧W.cell? ⟨(ad.add (j*5)).block,(ad.add (j*5)).off+2,none⟩=some (.int .i64 x.at_) ∧
   W.cell? ⟨(ad.add (j*5)).block,(ad.add (j*5)).off+3,none⟩=some (.int .i64 x.n)∧W.cell? ⟨(ad.add (j*5)).block,(ad.add (j*5)).off+4,none⟩=some (.string x.text):=by
  intro j hj;obtain⟨ad,cs,n,y,ha,hlen,hcell,htr,hw⟩:=hel j hj;obtain⟨_,hf⟩:=b3t hs hone (by rw[hC];rfl) htr hw;have k0:cs[0]?=some cs[0]:=List.getElem?_eq_getElem (by omega);have k1:cs[1]?=some cs[1]:=List.getElem?_eq_getElem (by omega);have k2:cs[2]?=some cs[2]:=List.getElem?_eq_getElem (by omega);have k3:cs[3]?=some cs[3]:=List.getElem?_eq_getElem (by omega);have k4:cs[4]?=some cs[4]:=List.getElem?_eq_getElem (by omega);obtain⟨_,_,t0,_⟩:=hf 0 f0 _ rfl k0;obtain⟨_,_,t1,_⟩:=hf 1 f1 _ rfl k1;obtain⟨_,_,t2,_⟩:=hf 2 f2 _ rfl k2;obtain⟨_,_,t3,_⟩:=hf 3 f3 _ rfl k3;obtain⟨_,_,t4,w4⟩:=hf 4 f4 _ rfl k4;obtain⟨x0,e0,b0'⟩:=a4c h0 t0;obtain⟨x1,e1,b1'⟩:=a4c h1 t1;obtain⟨x2,e2,b2'⟩:=a4c h2 t2;obtain⟨x3,e3,b3'⟩:=a4c h3 t3;obtain⟨x4,e4,b4'⟩:=b2m h4 t4 w4;have m0:=(hcell 0 (by omega)).trans k0;have m1:=(hcell 1 (by omega)).trans k1;have m2:=(hcell 2 (by omega)).trans k2;have m3:=(hcell 3 (by omega)).trans k3;have m4:=(hcell 4 (by omega)).trans k4;rw[e0] at m0;rw[e1] at m1;rw[e2] at m2;rw[e3] at m3;rw[e4] at m4;have hz:(ad.add (j*5)).add 0=ad.add (j*5):=by cases (ad.add (j*5));rfl
  have ho:∀ q:Nat,(ad.add (j*5)).add (q+1)=⟨(ad.add (j*5)).block,(ad.add (j*5)).off+(q+1),none⟩:=fun q=>by simp[Addr.add]
  rw[hz] at m0;rw[ho 0] at m1;rw[ho 1] at m2;rw[ho 2] at m3;rw[ho 3] at m4;exact⟨⟨x0,x1,x2,x3,x4⟩,⟨b0', b1', b2', b3', b4'⟩,ad,ha,by have:=block_lt_of_cell m0;rwa [a0g] at this,m0,m1,m2,m3,m4⟩
 obtain⟨L,hL,hLe⟩:=c7u _ len each;exact⟨a,len,cap,L,rfl,hl,hL,hb2,fun j x hx=>hLe j x hx⟩
theorem c2s {e2 e3:TypeId}{f0 f1 f2 f3 f4 f5 f6:Field}{d:DataW H}{p:List MemPlace}(hs:P.underlying t=some (.struct #[f0,f1,f2,f3,f4,f5,f6]))(hone:oneCellFields P #[f0,f1,f2,f3,f4,f5,f6]=true)(hC:P.cellsOf t=7)
  (h0:P.underlying f0.type=some (.int .i64))(h1:P.underlying f1.type=some (.slice e1))(h2:P.underlying f2.type=some (.slice e2))(h3:P.underlying f3.type=some (.slice e3))(h4:P.underlying f4.type=some (.int .i64))(h5:P.underlying f5.type=some (.int .i64))(h6:P.underlying f6.type=some .string)
  (g1:P.underlying e1=some (.int .i64))(g2:P.underlying e2=some (.int .i64))(g3:P.underlying e3=some (.int .i64))(c1:P.cellsOf e1=1)(c2:P.cellsOf e2=1)(c3:P.cellsOf e3=1)(y1:P.bytesOf e1=8)(y2:P.bytesOf e2=8)(y3:P.bytesOf e3=8)
  (hv:Value.okWide P W r b0 t v)(h:DataW.Trod enc P W 0 (fun _=>true) true t v d p)(hsz:∀ n∈d.weights P t,n≤reachBytes):∃ nd,a4a W v nd:=by
 obtain⟨⟨cs⟩,rfl,hsc⟩:=okWide_struct hs hv;obtain⟨fuel,hf⟩:=h;obtain⟨hl,hf⟩:=b3t (x:=(d,p)) hs hone (by rw[hC];rfl) (by simpa [Value.cells] using hf) hsz
 match cs,hl with
 | [v0,v1,v2,v3,v4,v5,v6],_ =>
  obtain⟨_,_,t0,_⟩:=hf 0 f0 _ rfl rfl;obtain⟨_,_,t1,w1⟩:=hf 1 f1 _ rfl rfl;obtain⟨_,_,t2,w2⟩:=hf 2 f2 _ rfl rfl;obtain⟨_,_,t3,w3⟩:=hf 3 f3 _ rfl rfl;obtain⟨_,_,t4,_⟩:=hf 4 f4 _ rfl rfl;obtain⟨_,_,t5,_⟩:=hf 5 f5 _ rfl rfl;obtain⟨_,_,t6,w6⟩:=hf 6 f6 _ rfl rfl;obtain⟨x0,rfl,b0'⟩:=a4c h0 t0;obtain⟨A,na,ca,xs,rfl,qa,_,hA⟩:=a4w h1 g1 c1 y1 t1 w1;obtain⟨B,nb,cb,ys,rfl,qb,_,hB⟩:=a4w h2 g2 c2 y2 t2 w2;obtain⟨C,nc,cc,zs,rfl,qc,_,hC'⟩:=a4w h3 g3 c3 y3 t3 w3;obtain⟨x4,rfl,b4'⟩:=a4c h4 t4;obtain⟨x5,rfl,b5'⟩:=a4c h5 t5;obtain⟨x6,rfl,_⟩:=b2m h6 t6 w6;exact⟨⟨x0,xs,ys,zs,x4,x5,x6⟩,A,na,ca,B,nb,cb,C,nc,cc,rfl,qa,qb,qc,hA,hB,hC', b0', b4', b5', trivial⟩
end
end Go.Proofs.YtjblengklgkgfaaGreat
