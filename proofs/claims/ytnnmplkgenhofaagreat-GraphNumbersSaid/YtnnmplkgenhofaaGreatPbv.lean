import Derived.Test.YtnnmplkgenhofaaGreatPbu
set_option maxRecDepth 100000
set_option maxHeartbeats 12800000
namespace Go.Proofs.YtnnmplkgenhofaaGreat
open Go.RowKit
def Turns (w:World) (A:Option Addr) (n:Nat) (L:List TurnV):Prop :=
 L.length=n∧n≤17592186044000∧∀ j t,L[j]? = some t→TurnOk t∧∃ a,A=some a∧a.block<w.heap.size∧w.cell? (a.add (j*5))=some (.int .i64 t.what) ∧
  w.cell? ⟨(a.add (j*5)).block,(a.add (j*5)).off+1,none⟩=some (.int .i64 t.node)∧w.cell? ⟨(a.add (j*5)).block,(a.add (j*5)).off+2,none⟩=some (.int .i64 t.at_) ∧
  w.cell? ⟨(a.add (j*5)).block,(a.add (j*5)).off+3,none⟩=some (.int .i64 t.n)∧w.cell? ⟨(a.add (j*5)).block,(a.add (j*5)).off+4,none⟩=some (.string t.text)
theorem Turns.below {w w' : World} {A:Option Addr} {n:Nat} {L:List TurnV} (h:Turns w A n L) (hb:Below w.heap.size w w'):Turns w' A n L :=
 ⟨h.1,h.2.1,fun j x hx=>by
  obtain⟨ok,a,e,hl,h0,h1,h2,h3,h4⟩:=h.2.2 j x hx;have hl' : ∀ k:Nat,(⟨(a.add (j*5)).block,(a.add (j*5)).off+k,none⟩:Addr).block<w.heap.size:=fun k=>by simp only[block_of_add];exact hl
  exact⟨ok,a,e,by have:=hb.size;omega,(hb.cell (by rw[block_of_add];exact hl)).trans h0,(hb.cell (hl' 1)).trans h1,(hb.cell (hl' 2)).trans h2,(hb.cell (hl' 3)).trans h3,(hb.cell (hl' 4)).trans h4⟩⟩
def GBox (w:World) (g:Nat):Prop:=∃ A na ca nm B nb cb C nc cc T f,w.heap[g]? = some (.cells #[.slice A na ca,.string nm,.slice B nb cb,.slice C nc cc] T f)
theorem notBox {w:World} {g:Nat} {p:Addr} {x:Int} (hb:GBox w g) (hc:w.cell? p=some (.int .i64 x)):p.block≠g:=by
 intro e;obtain⟨A,na,ca,nm,B,nb,cb,C,nc,cc,T,f,hb⟩:=hb;simp only[World.cell?,e,hb] at hc
 split at hc
 ·cases hc
 ·rcases(show p.off=0∨p.off=1∨p.off=2∨p.off=3∨4≤p.off by omega) with h|h|h|h|h
  ·rw[h] at hc;cases hc
  ·rw[h] at hc;cases hc
  ·rw[h] at hc;cases hc
  ·rw[h] at hc;cases hc
  ·rw[Array.getElem?_eq_none (by simpa using h)] at hc;cases hc
structure KeepB (w w' : World) (g:Nat):Prop where
 box:GBox w g
 cell:∀ p:Addr,p.block≠g→w'.cell? p=w.cell? p
 size:w.heap.size≤w'.heap.size
theorem Ints.keepB {w w' : World} {g:Nat} {A:Option Addr} {n:Nat} {xs:List Int} (h:Ints w A n xs) (k:KeepB w w' g):Ints w' A n xs :=
 ⟨h.1,h.2.1,h.2.2.1,fun hn=>by
  obtain⟨ad,e,hb,hc⟩:=h.2.2.2 hn;have hx:xs[0]? = some (xs[0]'(by have:=h.1;omega)):=List.getElem?_eq_getElem (by have:=h.1;omega);have hne:=notBox k.box (hc 0 _ hx);rw[block_of_add] at hne
  exact⟨ad,e,by have:=k.size;omega,fun j u hu=>(k.cell _ (by rw[block_of_add];exact hne)).trans (hc j u hu)⟩⟩
theorem NodeL.keepB {w w' : World} {g:Nat} {nd:NodeV} {A:Option Addr} {na ca:Nat} {B:Option Addr} {nb cb:Nat} {C:Option Addr} {nc cc:Nat} (h:NodeL w nd A na ca B nb cb C nc cc) (k:KeepB w w' g):NodeL w' nd A na ca B nb cb C nc cc :=
 ⟨h.ia,h.ib,h.ic,h.inA.keepB k,h.inB.keepB k,h.inC.keepB k,h.op,h.n,h.how,h.note⟩
theorem Nods.keepB {w w' : World} {g:Nat} {A:Option Addr} {n:Nat} {N:List NodeV} (h:Nods w A n N) (k:KeepB w w' g):Nods w' A n N :=
 ⟨h.1,h.2.1,fun j nd hj=>by
  obtain⟨a,S,na,ca,B,nb,cb,C,nc,cc,e,hl,c0,c1,c2,c3,c4,c5,c6,hN⟩:=h.2.2 j nd hj;have hne:=notBox k.box c0;have hne' : a.block≠g:=by rwa [block_of_add] at hne
  have hk:∀ i:Nat,(⟨(a.add (j*7)).block,(a.add (j*7)).off+i,none⟩:Addr).block≠g:=fun i=>hne
  exact⟨a,S,na,ca,B,nb,cb,C,nc,cc,e,by have:=k.size;omega,(k.cell _ hne).trans c0,(k.cell _ (hk 1)).trans c1,(k.cell _ (hk 2)).trans c2,(k.cell _ (hk 3)).trans c3,(k.cell _ (hk 4)).trans c4,(k.cell _ (hk 5)).trans c5,(k.cell _ (hk 6)).trans c6,hN.keepB k⟩⟩
theorem GraphIs.keepB {w w' : World} {g:Nat} {v:Value} {G:GraphV} (h:GraphIs w v G) (k:KeepB w w' g):GraphIs w' v G:=by
 obtain⟨A,na,ca,B,nb,cb,C,nc,cc,e,hL⟩:=h;exact⟨A,na,ca,B,nb,cb,C,nc,cc,e,⟨hL.ia,hL.ib,hL.ic,hL.inA.keepB k,hL.inB.keepB k,hL.inC.keepB k,hL.names⟩⟩
theorem keepB_set4 {w:World} {g:Nat} (h:GBox w g) (a b c d:Value):KeepB w ((((w.setCell ⟨g,0,none⟩ a).setCell ⟨g,1,none⟩ b).setCell ⟨g,2,none⟩ c).setCell ⟨g,3,none⟩ d) g:=by
 refine⟨h,fun p hp=>?_,by simp⟩;have hne:∀ j,(⟨g,j,none⟩:Addr)≠p:=fun j e=>hp (by rw[← e])
 rw[World.cell?_setCell_other _ _ _ _ (hne 3),World.cell?_setCell_other _ _ _ _ (hne 2),World.cell?_setCell_other _ _ _ _ (hne 1),World.cell?_setCell_other _ _ _ _ (hne 0)]
theorem FewG.more {q r:Nat} {G:GraphV} (h:FewG q G) (hr:q≤r):FewG r G :=
 ⟨by have:=h.nodes;omega,by have:=h.sizes;omega,by have:=h.outs;omega,fun j nd hj=>by
  have:=h.each j nd hj
  exact⟨by have:=this.1;omega,by have:=this.2.1;omega,by have:=this.2.2;omega⟩⟩
theorem Odd_any {w:World} {v:Value} {G:GraphV} {A:Option Addr} {n c:Nat} {L:List TurnV} (h:GraphIs w v G) (hs:FewG 10 G) (hL:Turns w A n L) :
  Calls Tryz.prog 7 #[v,.slice A n c] w fun e w' => (∃ v', e=.returned v' ∧ ∃ G', GraphIs w' v' G' ∧ FewG 20 G')∧Below w.heap.size w w' := by
 obtain⟨A0,na,ca,B0,nb,cb,C0,nc,cc,rfl,hl⟩:=h;have h1:=((Sep.nil w).allocBox w.heap.size 25 [.slice A0 na ca,.string G.names,.slice B0 nb cb,.slice C0 nc cc] rfl).allocBox (w.heap.size+1) 25 [.slice none 0 0,.string ⟨#[]⟩,.slice none 0 0,.slice none 0 0] (by simp);have hG0:GraphIs w (.agg #[.slice A0 na ca,.string G.names,.slice B0 nb cb,.slice C0 nc cc]) G:=⟨_,_,_,_,_,_,_,_,_,rfl,hl⟩;have HG0:=Hd hG0;have HS:=Hd hs;have HL:=Hd hL;have hn:=hL.2.1;clear hL hs hl hG0
 go_enter Tryz.func7,Tryz.ntmps7
 go_upto_region 1 with fail
 generalize (w.alloc (.cells #[.slice A0 na ca,.string G.names,.slice B0 nb cb,.slice C0 nc cc] 25)).alloc (.cells #[.slice none 0 0,.string ⟨#[]⟩,.slice none 0 0,.slice none 0 0] 25)=W at *;have H:=Hd h1;clear h1;have HG1:=Hd (HG0.out.below H.out.base)
 go_wp2_with fail
 go_loopw [5] (fun iv wr=>∃(i:Nat) (A1:Option Addr) (na1 ca1:Nat) (nm:ByteArray) (B1:Option Addr) (nb1 cb1:Nat) (C1:Option Addr) (nc1 cc1:Nat) (G1:GraphV),iv=.int .i64 i∧i≤4∧GraphIs wr (.agg #[.slice A1 na1 ca1,.string nm,.slice B1 nb1 cb1,.slice C1 nc1 cc1]) G1∧FewG (10+i) G1 ∧
  Sep w wr [.box (w.heap.size+1) 25 [.slice none 0 0,.string ⟨#[]⟩,.slice none 0 0,.slice none 0 0],.box w.heap.size 25 [.slice A1 na1 ca1,.string nm,.slice B1 nb1 cb1,.slice C1 nc1 cc1]]) (fun iv _=>4-(intOf iv).toNat)
 case atStart=>exact⟨0,_,_,_,_,_,_,_,_,_,_,G,rfl,by omega,HG1.out,HS.out,H.out⟩
 case round =>
  clear H HG1;obtain⟨i,A1,na1,ca1,nm,B1,nb1,cb1,C1,nc1,cc1,G1,rfl,hi4,hG,hF,hS⟩:=hrel;have H:=Hd hS;have HG:=Hd hG;have HF:=Hd hF;clear hS hG hF;by_cases hin:i<n∧i<4
  ·obtain⟨hin1,hin2⟩:=hin;have d1:decide (i<n)=true:=by simpa using hin1
   have d2:decide (i<4)=true:=by simpa using hin2
   obtain⟨t,ht⟩:∃ t,L[i]? = some t:=⟨_,List.getElem?_eq_getElem (by have:=HL.out.1;omega)⟩;obtain⟨ok,a,hAa,hab,t0,t1,t2,t3,t4⟩:=(HL.out.below H.out.base).2.2 i t ht;subst hAa;have HOK:=Hd ok;have HTT:=Hd ht;clear ht ok hab;have CO:=odd_any (t:=t) (HG.out.below ((Below.refl _ _).drew)) HF.out (by omega) HOK.out;unfold turnVal at CO;have HCO:=Hd CO;clear CO
   have HTS:Hid (∀ w9:World,Below w.heap.size w w9→(w9.cell? (a.add (i*5))=some (.int .i64 t.what)∧w9.cell? ⟨(a.add (i*5)).block,(a.add (i*5)).off+1,none⟩=some (.int .i64 t.node)∧w9.cell? ⟨(a.add (i*5)).block,(a.add (i*5)).off+2,none⟩=some (.int .i64 t.at_)∧w9.cell? ⟨(a.add (i*5)).block,(a.add (i*5)).off+3,none⟩=some (.int .i64 t.n)∧w9.cell? ⟨(a.add (i*5)).block,(a.add (i*5)).off+4,none⟩=some (.string t.text))):=Hd fun w9 h9=>by
    obtain⟨_,a', ea,_,u0,u1,u2,u3,u4⟩:=(HL.out.below h9).2.2 i t HTT.out;injection ea with ea
    subst ea;exact⟨u0,u1,u2,u3,u4⟩
   clear t0 t1 t2 t3 t4;obtain⟨t0,t1,t2,t3,t4⟩:=HTS.out _ H.out.drew.base
   go_upto_region 4 with fail
   refine wp_region_held_drew (S:=(fun w' => w'.cell? (a.add (i*5))=some (.int .i64 t.what)∧w'.cell? ⟨(a.add (i*5)).block,(a.add (i*5)).off+1,none⟩=some (.int .i64 t.node)∧w'.cell? ⟨(a.add (i*5)).block,(a.add (i*5)).off+2,none⟩=some (.int .i64 t.at_)∧w'.cell? ⟨(a.add (i*5)).block,(a.add (i*5)).off+3,none⟩=some (.int .i64 t.n)∧w'.cell? ⟨(a.add (i*5)).block,(a.add (i*5)).off+4,none⟩=some (.string t.text))) (by kernel_rfl) ?_ (fun hq_=>?_)
   ·exact⟨t0,t1,t2,t3,t4⟩
   refine zW 1 hq_ ?_
   try simp only[pA]
   refine zW 2 hq_ ?_
   try simp only[pA]
   refine zW 3 hq_ ?_
   try simp only[pA]
   refine zW 4 hq_ ?_
   try simp only[pA]
   refine e1 0 fun K hK=>?_
   (obtain ⟨b0,b1,b2,b3⟩:=H.out.drew.z4 1 rfl)
   go_simp
   try go_wp2_with fail
   refine zK hK ?_ ⟨t0,t1,t2,t3,t4⟩;clear hK K hq_;intro hq_
   try simp only[pA]
   refine e1 5 fun K hK=>?_
   first|(refine effU ?_ ?_;(focus rfl))|(go_simp;(go_at_call 27;refine HCO.out.mono ?_;rintro e5 z5 ⟨⟨v5,rfl,G5,hG5,hF5⟩,hb5⟩;have H5:=Hd (H.out.drew.below hb5);have HG5:=Hd hG5;have HF5:=Hd hF5;obtain⟨A5,na5,ca5,B5,nb5,cb5,C5,nc5,cc5,rfl,_⟩:=hG5;clear hb5 hF5;obtain⟨u0,u1,u2,u3,u4⟩:=HTS.out _ H5.out.base);go_wp2_with fail)
   refine zK hK ?_ ⟨u0,u1,u2,u3,u4⟩;clear hK K hq_;intro hq_
   try simp only[pA]
   refine e1 6 fun K hK=>?_
   (obtain ⟨c0,c1,c2,c3⟩:=H5.out.z4 1 rfl;obtain ⟨f0,f1,f2,f3⟩:=H5.out.f4 1 rfl;have HSS:=Hd ((((H5.out.setBox 1 0 (.slice A5 na5 ca5) rfl).setBox 1 1 (.string G5.names) rfl).setBox 1 2 (.slice B5 nb5 cb5) rfl).setBox 1 3 (.slice C5 nc5 cc5) rfl);have HG6:=Hd (HG5.out.keepB (keepB_set4 (show GBox z5 w.heap.size from⟨_,_,_,_,_,_,_,_,_,_,_,_,H5.out.heap 1 rfl⟩) (.slice A5 na5 ca5) (.string G5.names) (.slice B5 nb5 cb5) (.slice C5 nc5 cc5)));obtain⟨x0,x1,x2,x3,x4⟩:=HTS.out _ HSS.out.base)
   go_simp
   try go_wp2_with fail
   refine zK hK ?_ ⟨x0,x1,x2,x3,x4⟩;clear hK K hq_;intro hq_
   try simp only[pA]
   refine wpAnyH_done (by kernel_rfl) ?_ _;go_wp2;go_roundw
   case rel=>exact⟨i+1,_,_,_,_,_,_,_,_,_,_,G5,by go_num,by omega,HG6.out,HF5.out,HSS.out⟩
   case measure=>simp[intOf];omega
  ·obtain ⟨b0,b1,b2,b3⟩:=H.out.z4 1 rfl;obtain⟨r0,r1,r2,r3⟩:=H.out.cells4 0 rfl;obtain ⟨f0,f1,f2,f3⟩:=H.out.f4 0 rfl;have HSS:=Hd ((((H.out.setBox 0 0 (.slice A1 na1 ca1) rfl).setBox 0 1 (.string nm) rfl).setBox 0 2 (.slice B1 nb1 cb1) rfl).setBox 0 3 (.slice C1 nc1 cc1) rfl);have HG6:=Hd (HG.out.keepB (keepB_set4 (show GBox wr (w.heap.size+1) from⟨_,_,_,_,_,_,_,_,_,_,_,_,H.out.heap 0 rfl⟩) (.slice A1 na1 ca1) (.string nm) (.slice B1 nb1 cb1) (.slice C1 nc1 cc1)));have hF6:=HF.out.more (show 10+i≤20 by omega);by_cases h1:i<n
   ·have d1:decide (i<n)=true:=by simpa using h1
    have d2:decide (i<4)=false:=by simp;omega
    go_wp2;exact ret_graph (v0:=.slice A1 na1 ca1) (v1:=.string nm) (v2:=.slice B1 nb1 cb1) (v3:=.slice C1 nc1 cc1) HSS.out 0 rfl Tryz.results7 rfl rfl ⟨⟨_,rfl,G1,HG6.out,hF6⟩,HSS.out.base⟩
   ·have d1:decide (i<n)=false:=by simpa using h1
    go_wp2;exact ret_graph (v0:=.slice A1 na1 ca1) (v1:=.string nm) (v2:=.slice B1 nb1 cb1) (v3:=.slice C1 nc1 cc1) HSS.out 0 rfl Tryz.results7 rfl rfl ⟨⟨_,rfl,G1,HG6.out,hF6⟩,HSS.out.base⟩
end Go.Proofs.YtnnmplkgenhofaaGreat
