import Derived.MakeChecks
import Derived.Test.YtdcmanhgekjhgaaGreatDoorPbu
set_option maxRecDepth 100000
set_option maxHeartbeats 12800000
namespace Go.Proofs.YtdcmanhgekjhgaaGreatDoor
open Go.RowKit Go.Proofs.Tryz
variable {A:Option Addr} {G:a1d} {g n:Nat} {v:Value} {w w':World} {xs:List Int}
def c7w (w:World) (A:Option Addr) (n:Nat) (L:List c0b):Prop :=
 L.length=n∧n≤17592186044000∧∀ j t,L[j]?=some t→d0d t∧∃ a,A=some a∧a.block<w.heap.size∧w.cell? (a.add (j*5))=some (.int .i64 t.what) ∧
  w.cell? ⟨(a.add (j*5)).block,(a.add (j*5)).off+1,none⟩=some (.int .i64 t.node)∧w.cell? ⟨(a.add (j*5)).block,(a.add (j*5)).off+2,none⟩=some (.int .i64 t.at_) ∧
  w.cell? ⟨(a.add (j*5)).block,(a.add (j*5)).off+3,none⟩=some (.int .i64 t.n)∧w.cell? ⟨(a.add (j*5)).block,(a.add (j*5)).off+4,none⟩=some (.string t.text)
theorem c7w.below {L:List c0b}(h:c7w w A n L)(hb:Below w.heap.size w w'):c7w w' A n L :=
 ⟨h.1,h.2.1,fun j x hx=>by
  obtain⟨ok,a,e,hl,h0,h1,h2,h3,h4⟩:=h.2.2 j x hx;have hl' : ∀ k:Nat,(⟨(a.add (j*5)).block,(a.add (j*5)).off+k,none⟩:Addr).block<w.heap.size:=fun k=>by simp only[a0d];exact hl
  exact⟨ok,a,e,by have:=hb.size;omega,(hb.cell (by rw[a0d];exact hl)).trans h0,(hb.cell (hl' 1)).trans h1,(hb.cell (hl' 2)).trans h2,(hb.cell (hl' 3)).trans h3,(hb.cell (hl' 4)).trans h4⟩⟩
def GBox (w:World) (g:Nat):Prop:=∃ A na ca nm B nb cb C nc cc T f,w.heap[g]?=some (.cells #[.slice A na ca,.string nm,.slice B nb cb,.slice C nc cc] T f)
theorem e3u {p:Addr}{x:Int}(hb:GBox w g)(hc:w.cell? p=some (.int .i64 x)):p.block≠g:=by
 intro e;obtain⟨A,na,ca,nm,B,nb,cb,C,nc,cc,T,f,hb⟩:=hb;simp only[World.cell?,e,hb] at hc
 split at hc
 ·cases hc
 ·rcases(show p.off=0∨p.off=1∨p.off=2∨p.off=3∨4≤p.off by omega) with h|h|h|h|h
  ·rw[h] at hc;cases hc
  ·rw[h] at hc;cases hc
  ·rw[h] at hc;cases hc
  ·rw[h] at hc;cases hc
  ·rw[Array.getElem?_eq_none (by simpa using h)] at hc;cases hc
structure d4r (w w' : World) (g:Nat):Prop where
 box:GBox w g
 cell:∀ p:Addr,p.block≠g→w'.cell? p=w.cell? p
 size:w.heap.size≤w'.heap.size
theorem Ints.keepB (h:Ints w A n xs)(k:d4r w w' g):Ints w' A n xs :=
 ⟨h.1,h.2.1,h.2.2.1,fun hn=>by
  obtain⟨ad,e,hb,hc⟩:=h.2.2.2 hn;have hx:xs[0]?=some (xs[0]'(by have:=h.1;omega)):=List.getElem?_eq_getElem (by have:=h.1;omega);have hne:=e3u k.box (hc 0 _ hx);rw[a0d] at hne
  exact⟨ad,e,by have:=k.size;omega,fun j u hu=>(k.cell _ (by rw[a0d];exact hne)).trans (hc j u hu)⟩⟩
theorem a9l.keepB {nd:a0l}{na ca:Nat}{B:Option Addr}{nb cb:Nat}{C:Option Addr}{nc cc:Nat}(h:a9l w nd A na ca B nb cb C nc cc)(k:d4r w w' g):a9l w' nd A na ca B nb cb C nc cc :=
 ⟨h.ia,h.ib,h.ic,h.inA.keepB k,h.inB.keepB k,h.inC.keepB k,h.op,h.n,h.how,h.note⟩
theorem Nods.keepB {N:List a0l}(h:Nods w A n N)(k:d4r w w' g):Nods w' A n N :=
 ⟨h.1,h.2.1,fun j nd hj=>by
  obtain⟨a,S,na,ca,B,nb,cb,C,nc,cc,e,hl,c0,c1,c2,c3,c4,c5,c6,hN⟩:=h.2.2 j nd hj;have hne:=e3u k.box c0;have hne' : a.block≠g:=by rwa [a0d] at hne
  have hk:∀ i:Nat,(⟨(a.add (j*7)).block,(a.add (j*7)).off+i,none⟩:Addr).block≠g:=fun i=>hne
  exact⟨a,S,na,ca,B,nb,cb,C,nc,cc,e,by have:=k.size;omega,(k.cell _ hne).trans c0,(k.cell _ (hk 1)).trans c1,(k.cell _ (hk 2)).trans c2,(k.cell _ (hk 3)).trans c3,(k.cell _ (hk 4)).trans c4,(k.cell _ (hk 5)).trans c5,(k.cell _ (hk 6)).trans c6,hN.keepB k⟩⟩
theorem a1m.keepB (h:a1m w v G)(k:d4r w w' g):a1m w' v G:=by
 obtain⟨A,na,ca,B,nb,cb,C,nc,cc,e,hL⟩:=h;exact⟨A,na,ca,B,nb,cb,C,nc,cc,e,⟨hL.ia,hL.ib,hL.ic,hL.inA.keepB k,hL.inB.keepB k,hL.inC.keepB k,hL.names⟩⟩
theorem c1f (h:GBox w g)(a b c d:Value):d4r w ((((w.setCell ⟨g,0,none⟩ a).setCell ⟨g,1,none⟩ b).setCell ⟨g,2,none⟩ c).setCell ⟨g,3,none⟩ d) g:=by
 refine⟨h,fun p hp=>?_,by simp⟩;have hne:∀ j,(⟨g,j,none⟩:Addr)≠p:=fun j e=>hp (by rw[←e])
 rw[World.cell?_setCell_other _ _ _ _ (hne 3),World.cell?_setCell_other _ _ _ _ (hne 2),World.cell?_setCell_other _ _ _ _ (hne 1),World.cell?_setCell_other _ _ _ _ (hne 0)]
theorem FewG.more {q r:Nat}(h:FewG q G)(hr:q≤r):FewG r G :=
 ⟨by have:=h.nodes;omega,by have:=h.sizes;omega,by have:=h.outs;omega,fun j nd hj=>by
  have:=h.each j nd hj
  exact⟨by have:=this.1;omega,by have:=this.2.1;omega,by have:=this.2.2;omega⟩⟩
theorem d4s {c:Nat}{L:List c0b}(h:a1m w v G)(hs:FewG 10 G)(hL:c7w w A n L):
  Calls prog 12 #[v,.slice A n c] w fun e w'=>(∃ v', e=.returned v'∧∃ G', a1m w' v' G'∧FewG 20 G')∧Below w.heap.size w w':=by
 obtain⟨A0,na,ca,B0,nb,cb,C0,nc,cc,rfl,hl⟩:=h;have h1:=((Sep.nil w).allocBox w.heap.size 28 [.slice A0 na ca,.string G.names,.slice B0 nb cb,.slice C0 nc cc] rfl).allocBox (w.heap.size+1) 28 zG (by simp);have hG0:a1m w (.agg #[.slice A0 na ca,.string G.names,.slice B0 nb cb,.slice C0 nc cc]) G:=⟨_,_,_,_,_,_,_,_,_,rfl,hl⟩;have HG0:=Hd hG0;have HS:=Hd hs;have HL:=Hd hL;have hn:=hL.2.1;clear hL hs hl hG0
 go_enter func12,ntmps12
 go_upto_region 1 with fail
 generalize (w.alloc (.cells #[.slice A0 na ca,.string G.names,.slice B0 nb cb,.slice C0 nc cc] 28)).alloc (.cells zH 28)=W at *;have H:=Hd h1;clear h1;have HG1:=Hd (HG0.below H.base)
 go_wp2_with fail
 go_loopw [5] (fun iv wr=>∃(i:Nat) (A1:Option Addr) (na1 ca1:Nat) (nm:ByteArray) (B1:Option Addr) (nb1 cb1:Nat) (C1:Option Addr) (nc1 cc1:Nat) (G1:a1d),iv=.int .i64 i∧i≤4∧a1m wr (.agg #[.slice A1 na1 ca1,.string nm,.slice B1 nb1 cb1,.slice C1 nc1 cc1]) G1∧FewG (10+i) G1 ∧
  Sep w wr [.box (w.heap.size+1) 28 zG,.box w.heap.size 28 [.slice A1 na1 ca1,.string nm,.slice B1 nb1 cb1,.slice C1 nc1 cc1]]) (fun iv _=>4-(intOf iv).toNat)
 case atStart=>exact⟨0,_,_,_,_,_,_,_,_,_,_,G,rfl,by omega,HG1,HS,H⟩
 case round =>
  clear H HG1;obtain⟨i,A1,na1,ca1,nm,B1,nb1,cb1,C1,nc1,cc1,G1,rfl,hi4,hG,hF,hS⟩:=hrel;have H:=Hd hS;have HG:=Hd hG;have HF:=Hd hF;clear hS hG hF;by_cases hin:i<n∧i<4
  ·obtain⟨hin1,hin2⟩:=hin;have d1:decide (i<n)=true:=by simpa using hin1
   have d2:decide (i<4)=true:=by simpa using hin2
   obtain⟨t,ht⟩:∃ t,L[i]?=some t:=gE (by have:=HL.out.1;omega);obtain⟨ok,a,hAa,hab,t0,t1,t2,t3,t4⟩:=(HL.below H.base).2.2 i t ht;subst hAa;have HOK:=Hd ok;have HTT:=Hd ht;clear ht ok hab;have CO:=e5c (t:=t) (HG.below ((Below.refl _ _).drew)) HF (by omega) HOK;unfold b5a at CO;have HCO:=Hd CO;clear CO
   have HTS:Hid (∀ w9:World,Below w.heap.size w w9→(w9.cell? (a.add (i*5))=some (.int .i64 t.what)∧w9.cell? ⟨(a.add (i*5)).block,(a.add (i*5)).off+1,none⟩=some (.int .i64 t.node)∧w9.cell? ⟨(a.add (i*5)).block,(a.add (i*5)).off+2,none⟩=some (.int .i64 t.at_)∧w9.cell? ⟨(a.add (i*5)).block,(a.add (i*5)).off+3,none⟩=some (.int .i64 t.n)∧w9.cell? ⟨(a.add (i*5)).block,(a.add (i*5)).off+4,none⟩=some (.string t.text))):=Hd fun w9 h9=>by
    obtain⟨_,a', ea,_,u0,u1,u2,u3,u4⟩:=(HL.below h9).2.2 i t HTT;injection ea with ea
    subst ea;exact⟨u0,u1,u2,u3,u4⟩
   clear t0 t1 t2 t3 t4;obtain⟨t0,t1,t2,t3,t4⟩:=HTS.out _ H.drew.base
   go_upto_region 4 with fail
   refine wp_region_held_drew (S:=(fun w'=>w'.cell? (a.add (i*5))=some (.int .i64 t.what)∧w'.cell? ⟨(a.add (i*5)).block,(a.add (i*5)).off+1,none⟩=some (.int .i64 t.node)∧w'.cell? ⟨(a.add (i*5)).block,(a.add (i*5)).off+2,none⟩=some (.int .i64 t.at_)∧w'.cell? ⟨(a.add (i*5)).block,(a.add (i*5)).off+3,none⟩=some (.int .i64 t.n)∧w'.cell? ⟨(a.add (i*5)).block,(a.add (i*5)).off+4,none⟩=some (.string t.text))) (by kernel_rfl) ?_ (fun hq_=>?_)
   ·exact⟨t0,t1,t2,t3,t4⟩
   refine zV 1 hq_ ?_;refine zV 2 hq_ ?_;refine zV 3 hq_ ?_;refine zV 4 hq_ ?_;refine e1 0 fun K hK=>?_
   (obtain⟨b0,b1,b2,b3⟩:=H.drew.z4 1 rfl)
   go_simp;(try go_wp2_with fail);refine zX hK (fun hq_=>?_) ⟨t0,t1,t2,t3,t4⟩;refine e1 5 fun K hK=>?_
   first|(refine effU ?_ ?_;(focus rfl))|(go_simp;(go_at_call 34;refine HCO.mono ?_;rintro e5 z5 ⟨⟨v5,rfl,G5,hG5,hF5⟩,hb5⟩;have H5:=Hd (H.drew.below hb5);have HG5:=Hd hG5;have HF5:=Hd hF5;obtain⟨A5,na5,ca5,B5,nb5,cb5,C5,nc5,cc5,rfl,_⟩:=hG5;clear hb5 hF5;obtain⟨u0,u1,u2,u3,u4⟩:=HTS.out _ H5.base);go_wp2_with fail)
   refine zX hK (fun hq_=>?_) ⟨u0,u1,u2,u3,u4⟩;refine e1 6 fun K hK=>?_
   (obtain⟨c0,c1,c2,c3⟩:=H5.z4 1 rfl;obtain⟨f0,f1,f2,f3⟩:=H5.f4 1 rfl;have HSS:=Hd ((((H5.setBox 1 0 (.slice A5 na5 ca5) rfl).setBox 1 1 (.string G5.names) rfl).setBox 1 2 (.slice B5 nb5 cb5) rfl).setBox 1 3 (.slice C5 nc5 cc5) rfl);have HG6:=Hd (HG5.keepB (c1f (show GBox z5 w.heap.size from⟨_,_,_,_,_,_,_,_,_,_,_,_,H5.heap 1 rfl⟩) (.slice A5 na5 ca5) (.string G5.names) (.slice B5 nb5 cb5) (.slice C5 nc5 cc5)));obtain⟨x0,x1,x2,x3,x4⟩:=HTS.out _ HSS.base)
   go_simp;(try go_wp2_with fail);refine zX hK (fun hq_=>?_) ⟨x0,x1,x2,x3,x4⟩;refine dN ?_;go_wp2;go_roundw
   case rel=>exact⟨i+1,_,_,_,_,_,_,_,_,_,_,G5,by go_num,by omega,HG6,HF5,HSS⟩
   case measure=>simp[intOf];omega
  ·obtain⟨b0,b1,b2,b3⟩:=H.z4 1 rfl;obtain⟨r0,r1,r2,r3⟩:=H.cells4 0 rfl;obtain⟨f0,f1,f2,f3⟩:=H.f4 0 rfl;have HSS:=Hd ((((H.setBox 0 0 (.slice A1 na1 ca1) rfl).setBox 0 1 (.string nm) rfl).setBox 0 2 (.slice B1 nb1 cb1) rfl).setBox 0 3 (.slice C1 nc1 cc1) rfl);have HG6:=Hd (HG.keepB (c1f (show GBox wr (w.heap.size+1) from⟨_,_,_,_,_,_,_,_,_,_,_,_,H.heap 0 rfl⟩) (.slice A1 na1 ca1) (.string nm) (.slice B1 nb1 cb1) (.slice C1 nc1 cc1)));have hF6:=HF.more (show 10+i≤20 by omega);by_cases h1:i<n
   ·have d1:decide (i<n)=true:=by simpa using h1
    have d2:decide (i<4)=false:=by simp;omega
    go_wp2;exact a7g (v0:=.slice A1 na1 ca1) (v1:=.string nm) (v2:=.slice B1 nb1 cb1) (v3:=.slice C1 nc1 cc1) HSS 0 rfl results12 rfl rfl ⟨⟨_,rfl,G1,HG6,hF6⟩,HSS.base⟩
   ·have d1:decide (i<n)=false:=by simpa using h1
    go_wp2;exact a7g (v0:=.slice A1 na1 ca1) (v1:=.string nm) (v2:=.slice B1 nb1 cb1) (v3:=.slice C1 nc1 cc1) HSS 0 rfl results12 rfl rfl ⟨⟨_,rfl,G1,HG6,hF6⟩,HSS.base⟩
theorem e4v (h:a1m w v G):FitG G:=by
 obtain⟨A,na,ca,B,nb,cb,C,nc,cc,rfl,hL⟩:=h;refine⟨hL.inA.fit,hL.inC.fit,fun nd hnd=>?_⟩;obtain⟨k,hk,e⟩:=List.getElem_of_mem hnd;obtain⟨la,S,ns,cs,D,nD,cD,E,ne,ce,_,_,_,_,_,_,_,_,_,hN⟩:=hL.inB.2.2 k nd (List.getElem?_eq_some_iff.2 ⟨hk,e⟩);exact⟨hN.op,hN.n,hN.how,hN.inA.fit,hN.inB.fit,hN.inC.fit⟩
theorem c7x {A0 Au:Option Addr}{n0 c0 nu cu:Nat}{U:List c0b}(hI:Ints w A0 n0 xs)(hU:c7w w Au nu U)(hT:Tabs w):
  Calls prog 5 #[.slice A0 n0 c0,.slice Au nu cu] w fun e w'=>e=.returned (.bool true)∧Below w.heap.size w w':=by
 have HT:=Hd hT;have HU:=Hd hU;have C1:=c8q (c:=c0) hI;have HF0:=Hd (b7f xs);clear hI hU hT
 go_enter func5,ntmps5
 go_wp2_with fail
 refine C1.mono ?_;rintro e1 w1 ⟨⟨v,rfl,hG⟩,hb1⟩;have HG0:=Hd hG;have HB1:=Hd hb1;clear C1 hG hb1;have C2:=d4s (c:=cu) HG0 HF0 (HU.below HB1)
 go_wp2_with fail
 refine C2.mono ?_;rintro e2 w2 ⟨⟨v2,rfl,G2,hG2,hF2⟩,hb2⟩;have HB2:=Hd (a1c HB1 hb2);have HG2:=Hd hG2;have HF2:=Hd hF2;clear C2 hb2 hF2 hG2 HG0 HF0 HB1;obtain⟨A2,na2,ca2,B2,nb2,cb2,C2,nc2,cc2,hv,hL⟩:=HG2.out;subst hv;clear hL;have h3:=((Sep.nil w).below HB2).allocBox w2.heap.size 28 [.slice A2 na2 ca2,.string G2.names,.slice B2 nb2 cb2,.slice C2 nc2 cc2] rfl;have hba:Below w2.heap.size w2 (w2.alloc (.cells #[.slice A2 na2 ca2,.string G2.names,.slice B2 nb2 cb2,.slice C2 nc2 cc2] 28)):=(Below.refl _ _).alloc (Nat.le_refl _) _;replace HG2:=Hd (HG2.below hba);clear hba HB2
 go_upto_region 2 with fail
 generalize w2.alloc (.cells #[.slice A2 na2 ca2,.string G2.names,.slice B2 nb2 cb2,.slice C2 nc2 cc2] 28)=w3 at *;obtain⟨g2,hg2⟩:∃ g,w2.heap.size=g:=⟨_,rfl⟩;rw[hg2] at h3 ⊢;have H:=Hd h3;clear h3 hg2;obtain⟨k0,k1,k2,k3⟩:=H.cells4 0 rfl;have C3:=a6p HG2 HF2;obtain⟨⟨T,e⟩,hTe⟩:∃ r,a4f G2=r:=⟨_,rfl⟩;rw[hTe] at C3;have HTE:=Hd hTe;clear hTe
 go_wp2_with fail
 refine C3.mono ?_;rintro e3 w4 ⟨rfl,hb3⟩;replace H:=Hd (H.below hb3);replace HG2:=Hd (HG2.below hb3);clear C3 hb3 k0 k1 k2 k3;by_cases he:e=0
 ·subst he;have hP:=c1v (e4v HG2) HTE
  have h0:(a0f G2).1=0:=by
   refine Decidable.byContradiction fun hn=>?_
   have h:=HTE.out;rw[b0s hn] at h;injection h with _ h;exact hn h
  have hsz:T.size≤9223372036854775807:=by
   have h:=HTE.out;by_cases hb:65536<(a3f G2 (a0f G2).2).size
   ·rw[a6u h0 hb] at h;injection h with _ h;exact absurd h (by decide)
   ·rw[a9i h0 hb] at h;injection h with h _;rw[←h];omega
  have C4:=b1l (w:=w4) T hsz (HT.below H.base);rw[hP] at C4;have H0:=Hd h0;clear hP h0 hsz
  go_wp2_with fail
  refine C4.mono ?_;rintro e4 w5 ⟨v5,rfl,hG5,_,hb5⟩;replace H:=Hd (H.below hb5);replace HG2:=Hd (HG2.below hb5);have HG5:=Hd hG5;obtain⟨G5,hGe⟩:∃ G,b1w G2=G:=⟨_,rfl⟩;rw[hGe] at HG5;have HGE:=Hd hGe;clear C4 hb5 hG5 hGe;obtain⟨A5,na5,ca5,B5,nb5,cb5,C5,nc5,cc5,hv,hL⟩:=HG5.out;subst hv;clear hL;have h6:=H.allocBox w5.heap.size 28 [.slice A5 na5 ca5,.string G5.names,.slice B5 nb5 cb5,.slice C5 nc5 cc5] rfl;have hba:Below w5.heap.size w5 (w5.alloc (.cells #[.slice A5 na5 ca5,.string G5.names,.slice B5 nb5 cb5,.slice C5 nc5 cc5] 28)):=(Below.refl _ _).alloc (Nat.le_refl _) _;replace HG2:=Hd (HG2.below hba);replace HG5:=Hd (HG5.below hba);clear hba
  go_upto_region 6 with fail
  generalize w5.alloc (.cells #[.slice A5 na5 ca5,.string G5.names,.slice B5 nb5 cb5,.slice C5 nc5 cc5] 28)=w6 at *;obtain⟨g5,hg5⟩:∃ g,w5.heap.size=g:=⟨_,rfl⟩;rw[hg5] at h6 ⊢;replace H:=Hd h6;clear h6 hg5;have D0:=Hd H.drew;have E0:=Hd (a1h (Below.refl w6.heap.size w6) 1);obtain⟨q0_0,q0_1,q0_2,q0_3⟩:=D0.cells4 1 rfl;obtain⟨q0_4,q0_5,q0_6,q0_7⟩:=D0.cells4 0 rfl;refine wp_region_held_drew (S:=(fun w'=>w'.cell? ⟨g2,0,none⟩=some (.slice A2 na2 ca2)∧w'.cell? ⟨g2,1,none⟩=some (.string G2.names)∧w'.cell? ⟨g2,2,none⟩=some (.slice B2 nb2 cb2)∧w'.cell? ⟨g2,3,none⟩=some (.slice C2 nc2 cc2)∧w'.cell? ⟨g5,0,none⟩=some (.slice A5 na5 ca5)∧w'.cell? ⟨g5,1,none⟩=some (.string G5.names)∧w'.cell? ⟨g5,2,none⟩=some (.slice B5 nb5 cb5)∧w'.cell? ⟨g5,3,none⟩=some (.slice C5 nc5 cc5))) (by kernel_rfl) ?_ (fun hq_=>?_)
  ·exact⟨q0_0,q0_1,q0_2,q0_3,q0_4,q0_5,q0_6,q0_7⟩
  refine zV 0 hq_ ?_;refine zV 1 hq_ ?_;refine zV 2 hq_ ?_;refine zT 3 hq_ ?_;refine zT 4 hq_ ?_;refine e1 5 fun K hK=>?_
  first|(refine effU ?_ ?_;(focus rfl))|(go_simp;(go_at_call 16;refine(c0n (HG2.below E0) HF2 H0).mono ?_;rintro e1 y1 ⟨⟨u,rfl,hGu⟩,hb1⟩;have D1:=Hd (D0.below hb1);have E1:=Hd (a1c E0 hb1);rw[HGE.out] at hGu;have HGU:=Hd hGu;clear hGu hb1;obtain⟨q1_0,q1_1,q1_2,q1_3⟩:=D1.z4 1 rfl;obtain⟨q1_4,q1_5,q1_6,q1_7⟩:=D1.z4 0 rfl);go_wp2_with fail)
  refine zX hK (fun hq_=>?_) ⟨q1_0,q1_1,q1_2,q1_3,q1_4,q1_5,q1_6,q1_7⟩;refine e1 6 fun K hK=>?_
  first|(refine effU ?_ ?_;(focus rfl))|(go_simp;(go_at_call 15;refine(b5s (HG5.below E1) HGU).mono ?_;rintro e2 y2 ⟨rfl,hb2⟩;have D2:=Hd (D1.below hb2);have E2:=Hd (a1c E1 hb2);clear hb2;obtain⟨q2_0,q2_1,q2_2,q2_3⟩:=D2.z4 1 rfl;obtain⟨q2_4,q2_5,q2_6,q2_7⟩:=D2.z4 0 rfl);go_wp2_with fail)
  refine zX hK (fun hq_=>?_) ⟨q2_0,q2_1,q2_2,q2_3,q2_4,q2_5,q2_6,q2_7⟩;refine zV 7 hq_ ?_;refine zV 8 hq_ ?_;refine e1 9 fun K hK=>?_
  first|(refine effU ?_ ?_;(focus rfl))|(go_simp;(go_at_call 11;refine(a7q (HT.below D2.base)).mono ?_;rintro e3 y3 ⟨rfl,hb3⟩;have D3:=Hd (D2.below hb3);clear hb3;obtain⟨q3_0,q3_1,q3_2,q3_3⟩:=D3.z4 1 rfl;obtain⟨q3_4,q3_5,q3_6,q3_7⟩:=D3.z4 0 rfl);go_wp2_with fail)
  refine zX hK (fun hq_=>?_) ⟨q3_0,q3_1,q3_2,q3_3,q3_4,q3_5,q3_6,q3_7⟩;refine zV 10 hq_ ?_;refine zV 11 hq_ ?_;refine dN ?_;go_wp2;go_ret;exact⟨by trivial,D3.base⟩
 ·have de:(e != 0)=true:=by simpa using he
  go_wp2_with fail
  refine(a7q (HT.below H.base)).mono ?_;rintro e4 w5 ⟨rfl,hb5⟩;replace H:=Hd (H.below hb5);clear hb5;go_wp2;go_ret;exact⟨by trivial,H.base⟩
def e4c (l:List ByteArray):DataW Unit:=.agg (l.map fun s=>.lit (.string s.data.toList))
theorem c8u {P:Program}{W:World}{name:String}{d:DataW Unit}:∀ {L:List (String × DataW Unit)} {ps:List MemPlace} {i:Nat},DataW.LaidVars P W L ps→L[i]?=some (name,d) →
  ∃ g t cs fuel p,P.globalNamed name=some g∧(P.globals[g]?).map (·.type)=some t∧W.var? P name=some cs∧DataW.trod (fun _=>()) P W 0 (fun _=>true) false fuel t cs.toList=some (d,p)
 | [],_,_,_,hi=>by simp at hi
 | _::_,_,0,h,hi=>by
  obtain⟨g,t,cs,fuel,p,q,h1,h2,h3,h4,_,_⟩:=h;simp only[List.getElem?_cons_zero,Option.some.injEq] at hi;obtain⟨rfl,rfl⟩:=hi
  exact⟨g,t,cs,fuel,p,h1,h2,h3,h4⟩
 | _::_,_,i+1,h,hi=>by
  obtain⟨_,_,_,_,_,_,_,_,_,_,h5,_⟩:=h;exact c8u h5 (by simpa using hi)
theorem d5d {a b:ByteArray}(h:a.data.toList=b.data.toList):a=b:=ByteArray.ext (Array.toList_inj.1 h)
theorem c9t {P:Program}{fuel:Nat}{t e:TypeId}{cs:List Value}{l:List ByteArray}{p:List MemPlace}(hl:l.length=n)
  (ht:P.underlying t=some (.array n e))(he:P.underlying e=some .string)(hce:P.cellsOf e=1)(hct:P.cellsOf t=n)
  (h:DataW.trod (fun _=>()) P w 0 (fun _=>true) false fuel t cs=some (e4c l,p)):cs=l.map Value.string:=by
 obtain⟨xs,m,_,hx,hlen,hn,hel⟩:=DataW.trod_array ht h;rw[hce] at hel
 have hx1:l.map (fun s=>(DataW.lit (.string s.data.toList):DataW Unit))=xs.map (·.1):=by
  have:=congrArg Prod.fst hx;injection this
 refine List.ext_getElem (by rw[List.length_map,hlen,hct,hl]) fun i h1 h2=>?_
 have hi:i<n:=by rw[List.length_map,hl] at h2;exact h2
 have hi2:i<xs.length:=by omega
 have h0:=hel i hi;rw[List.getElem?_eq_getElem hi2] at h0;obtain⟨s,e1,e2,_⟩:=DataW.trod_string he h0
 have e3:cs[i]=.string s:=by
  have:=congrArg (fun r:List Value=>r[0]?) e1;simp only[Nat.mul_one,List.getElem?_take,List.getElem?_drop] at this;rw[iP (by omega),Nat.add_zero,List.getElem?_eq_getElem h1] at this;exact Option.some.inj this
 have e4:(DataW.lit (.string (l[i]'(by rw[hl];exact hi)).data.toList):DataW Unit)=xs[i].1:=by
  have:=congrArg (fun r:List (DataW Unit)=>r[i]?) hx1;simp only[List.getElem?_map] at this;rw[List.getElem?_eq_getElem hi2,List.getElem?_eq_getElem (by rw[hl];exact hi)] at this;exact Option.some.inj this
 rw[e2] at e4;injection e4 with e5
 injection e5 with e6
 rw[e3,List.getElem_map,d5d e6]
theorem c9s {W:World}{L:List (String × DataW Unit)}(h:laidMetH prog L W)(hp:(L.all fun x=>x.2.handleName?.isNone)=true)(i j:Nat)
  (hi:L[i]?=some ("internal/strconv.uint64pow10", Lib.tabData .u64 Lib.pow10Tab))(hj:L[j]?=some ("parquetry/wire.ops", e4c opN)):Tabs W:=by
 rw[MakeChecks.laidMetH_plain _ _ _ hp] at h;obtain⟨ps,hv,_,_⟩:=h;refine⟨?_,?_⟩
 ·obtain⟨g,t,cs,fuel,p,h1,h2,h3,h4⟩:=c8u hv hi;obtain rfl:=Option.some.inj ((show prog.globalNamed "internal/strconv.uint64pow10" = some 1 by kernel_rfl).symm.trans h1);obtain rfl:=Option.some.inj ((show(prog.globals[1]?).map (·.type)=some 182 by kernel_rfl).symm.trans h2);have e:=Lib.cells_of_tab underlying182 underlying168 (by kernel_rfl) (by kernel_rfl) h4;unfold TabP Lib.TabIs;rw[h3,←e]
 ·obtain⟨g,t,cs,fuel,p,h1,h2,h3,h4⟩:=c8u hv hj;obtain rfl:=Option.some.inj ((show prog.globalNamed "parquetry/wire.ops" = some 0 by kernel_rfl).symm.trans h1);obtain rfl:=Option.some.inj ((show(prog.globals[0]?).map (·.type)=some 164 by kernel_rfl).symm.trans h2);have e:=c9t (l:=opN) rfl underlying164 underlying9 (by kernel_rfl) (by kernel_rfl) h4;unfold TabO;rw[h3,←e]
end Go.Proofs.YtdcmanhgekjhgaaGreatDoor
