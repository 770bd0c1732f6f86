import Derived.Test.YtdcmanhgekjhgaaGreatDoorPaz
set_option maxRecDepth 100000
set_option maxHeartbeats 12800000
namespace Go.Proofs.YtdcmanhgekjhgaaGreatDoor
open Go.RowKit Go.Proofs.Tryz
variable {G:a1d} {v:Value} {w:World}
theorem b3n {u:Value}{nd:a0l}(hG:a1m w v G)(hN:a4r w u nd)(rank:Int):
  Calls prog 21 #[v,u,.int .i64 rank] w fun e w'=>e=.returned (.string (a4o (a0a G.names) nd.note rank))∧Below w.heap.size w w':=by
 obtain⟨A,na,ca,B,nb,cb,C,nc,cc,rfl,hL⟩:=hG;obtain⟨S,ns,cs,T,nt,ct,U,nu,cu,rfl,hM⟩:=hN;have HS:=Hd hL.names;have C1:=fun w:World=>b5w (w:=w) (s:=G.names) (t:=nd.note) rank hL.names hM.note
 have HC1:=Hd C1;obtain⟨nm,hnm⟩:∃ l,a0a G.names=l:=⟨_,rfl⟩;have HNM:=Hd hnm;clear hL hM C1 hnm;have h1:=((Sep.nil w).allocBox w.heap.size 28 [.slice A na ca,.string G.names,.slice B nb cb,.slice C nc cc] rfl).allocBox (w.heap.size+1) 49 [.int .i64 nd.op,.slice S ns cs,.slice T nt ct,.slice U nu cu,.int .i64 nd.n,.int .i64 nd.how,.string nd.note] (by simp)
 go_enter func21,ntmps21
 go_upto_region 1 with fail
 generalize ((w.alloc (.cells #[.slice A na ca,.string G.names,.slice B nb cb,.slice C nc cc] 28)).alloc (.cells #[.int .i64 nd.op,.slice S ns cs,.slice T nt ct,.slice U nu cu,.int .i64 nd.n,.int .i64 nd.how,.string nd.note] 49))=w1 at *;have H:=Hd h1;clear h1;have g1:=H.c 1 1;have g6:=H.c 0 6
 go_wp2_with fail
 refine(HC1 w1).mono ?_;rintro e1 w2 ⟨⟨x,m,rfl,hO⟩,hb⟩;replace H:=Hd (H.below hb);have HO:=Hd hO;clear hO hb g1 g6;rw[HNM.out] at HO;have g1:=H.c 1 1
 cases hc:(a4n nm (a0a nd.note) rank).2.1 with
 | false =>
  rw[HNM.out,hc];have HQ:=Hd (show a4o nm nd.note rank=a4d by rw[a4o,hc];rfl);clear hc;go_wp2;go_ret
  exact⟨by rw[HNM.out,HQ.out];rfl,H.base⟩
 | true =>
  rw[HNM.out,hc];have HQ:=Hd (show a4o nm nd.note rank=a3q nm (a4n nm (a0a nd.note) rank).1 by rw[a4o,hc];rfl);have hlen:=b3j nm (a0a nd.note) rank;have hml:=HO.len;obtain⟨X,xc,rfl,hxc,hI,_⟩:=HO.form;have C2:=b5x (c:=xc) HS hI (by omega);rw[HNM.out,←HQ.out] at C2;have HC2:=Hd C2;clear hc hlen hml hI C2
  go_wp2_with fail
  refine HC2.mono ?_;rintro e3 w3 ⟨rfl,hb⟩;go_wp2;go_ret;exact⟨by rw[HNM.out];rfl,a1c H.base hb⟩
theorem kC {w':World}{p:Addr}(hb:Below w.heap.size w w')(h:w.cell? p=some v):w'.cell? p=some v:=(hb.cell (block_lt_of_cell h)).trans h
theorem a6p {q:Nat}(h:a1m w v G)(hF:FewG q G)(hq:q≤80000:=by omega):
  Calls prog 6 #[v] w fun e w'=>e=.returned (.tuple #[.string (a4f G).1,.int .i64 (a4f G).2])∧Below w.heap.size w w':=by
 have HG:=h;obtain⟨A,na,ca,B,nb,cb,C,nc,cc,rfl,hL⟩:=h;replace HG:=Hd HG;have C1:=fun w:World=>a7f (w:=w) (v:=.agg #[.slice A na ca,.string G.names,.slice B nb cb,.slice C nc cc]) (G:=G)
 have HC1:=Hd C1;have HL:=Hd hL;have HF:=Hd hF;have hnb:nb≤80000:=by have:=hF.nodes;have:=hL.inB.1;omega
 have hnc:nc≤80000:=by have:=hF.outs;have:=hL.inC.len;omega
 have hna:na≤80000:=by have:=hF.sizes;have:=hL.inA.len;omega
 have hnm:=hL.names;have h1:=(Sep.nil w).allocBox w.heap.size 28 [.slice A na ca,.string G.names,.slice B nb cb,.slice C nc cc] rfl;clear C1 hL hF
 go_enter func6,ntmps6
 go_upto_region 1 with fail
 generalize w.alloc (.cells #[.slice A na ca,.string G.names,.slice B nb cb,.slice C nc cc] 28)=W at *;have H:=Hd h1;clear h1;obtain⟨g0,g1,g2,g3⟩:=H.cells4 0 rfl;obtain⟨⟨e0,L⟩,he⟩:∃ r,a0f G=r:=⟨_,rfl⟩;have C2:=HC1.out W (HG.below H.base) (fun j nd hj=>Nat.le_trans (HF.small j nd hj) hq);rw[he] at C2;have HE:=Hd he;have HC2:=Hd C2;clear HC1 C2 he
 go_wp2_with fail
 refine HC2.mono ?_;rintro e2 w2 ⟨⟨A2,m2,c2,rfl,hc2,hL2⟩,hb2⟩;replace H:=Hd (H.below hb2);have HL2:=Hd hL2;clear hb2 hL2 HC2 g0 g1 g2 g3;by_cases hz:e0=0
 ·have dz:(e0 != 0)=false:=by simpa using hz
  subst hz;obtain⟨g0,g1,g2,g3⟩:=H.cells4 0 rfl;obtain⟨hgo,hll⟩:=b0p (G:=G) (by rw[HE.out]);rw[HE.out] at hgo hll;have HLL:=Hd (show L.length=nb by have h9:L.length=G.nodes.length:=hll;have:=HL.inB.1;omega);clear hgo hll;obtain⟨T0,hT0⟩:∃ T0,(if G.names=⟨#[]⟩ then c8y else c5t++G.names)=T0:=⟨_,rfl⟩
  have hT0s:T0.size≤G.names.size+6:=by
   rw[←hT0];split
   ·show 6≤_;omega
   ·rw[ByteArray.size_append];show 5+_≤_;omega
  have HT0:=Hd hT0;clear hT0
  go_upto_if 21 with fail
  go_cut [6] (fun sv wx=>sv=.string T0∧wx=w2)
  case first =>
   have hs5:(⟨#[109,101,115,104,32]⟩:ByteArray).size+G.names.size≤9223372036854775807:=by have:(⟨#[109,101,115,104,32]⟩:ByteArray).size=5:=rfl;omega
   by_cases hne:G.names=⟨#[]⟩
   ·have hem0:G.names.toList.isEmpty=true:=by rw[hne,ByteArray.toList_eq];rfl
    have hem:(!G.names.toList.isEmpty)=false:=by rw[hem0];rfl
    have HQ:=Hd (show T0=c8y by rw[←HT0.out,iP hne]);rw[hem];clear hne hem hem0
    go_wp2_with fail
    go_meet;exact⟨by rw[HQ.out];rfl,rfl⟩
   ·have hem0:G.names.toList.isEmpty=false:=by
     cases he:G.names.toList.isEmpty with
     | false=>rfl
     | true =>
      exfalso;apply hne
      have:=List.isEmpty_iff.1 he;apply ByteArray.ext;rw[ByteArray.toList_eq] at this;exact Array.toList_inj.1 this
    have hem:(!G.names.toList.isEmpty)=true:=by rw[hem0];rfl
    have HQ:=Hd (show T0=c5t++G.names by rw[←HT0.out,iN hne]);rw[hem];clear hne hem hem0
    go_wp2_with fail
    go_meet;exact⟨by rw[HQ.out];rfl,rfl⟩
  case rest =>
   obtain⟨rfl,rfl⟩:=hcut;have HA:=Hd (HL.inA.below H.base);have HAL:=Hd HL.inA.len
   go_wp2_with fail
   go_loop [28,6] (fun iv sv=>∃ k:Nat,k≤na∧iv=.int .i64 k∧sv=.string (a3j T0 (G.sizes.take k))) (fun iv _=>na-(intOf iv).toNat)
   case atStart=>exact⟨0,Nat.zero_le _,rfl,rfl⟩
   case round =>
    obtain⟨k,hk,rfl,rfl⟩:=hrel;have hsz:=a4s G.sizes k T0 (by have:=HAL.out;omega);by_cases hlt:k<na
    ·obtain⟨sa,x,rfl,_,hx,hcx,hfx⟩:=HA.at_ hlt;have HST:=Hd (b1k T0 hx);obtain⟨T1,hT1⟩:∃ T1,a3j T0 (G.sizes.take k)=T1:=⟨_,rfl⟩;rw[hT1] at hsz HST ⊢;have hnx:=a3y x;obtain⟨D,hD⟩:∃ D,numT x=D:=⟨_,rfl⟩;have CN:=a2d (w:=wc) hfx;rw[hD] at CN hnx HST;clear hx hT1 hD;have hs1:T1.size+(⟨#[32]⟩:ByteArray).size≤9223372036854775807:=by have:(⟨#[32]⟩:ByteArray).size=1:=rfl;omega
     have hs2:(T1++⟨#[32]⟩).size+D.size≤9223372036854775807:=by rw[ByteArray.size_append];have:(⟨#[32]⟩:ByteArray).size=1:=rfl;omega
     go_wp2_with fail
     refine CN.mono ?_;rintro e1 w1 ⟨rfl,rfl⟩;clear CN;go_wp2;go_round
     case rel=>exact⟨k+1,by omega,by go_num,by rw[HST.out];rfl⟩
     case measure=>simp[intOf];omega
    ·have hkn:na=k:=by omega
     subst hkn;have HX:=Hd (show G.sizes.take na=G.sizes from List.take_of_length_le (by have:=HAL.out;omega));rw[HX.out] at hsz ⊢;obtain⟨T1,hT1⟩:∃ T1,a3j T0 G.sizes=T1:=⟨_,rfl⟩;rw[hT1] at hsz ⊢;have HT1:=Hd (show a8c G=T1++lfT by rw[a8c,HT0.out,hT1]);have hs1:T1.size+(⟨#[10]⟩:ByteArray).size≤9223372036854775807:=by have:(⟨#[10]⟩:ByteArray).size=1:=rfl;omega
     have hM:(a8c G).size≤17592190000000:=by have:=c1k G;have:=HAL.out;omega
     clear hT1
     go_wp2_with fail
     go_loopw [46,6] (fun iv sv wr=>∃ k:Nat,iv=.int .i64 k∧k≤nb∧sv=.string (a4i (a0a G.names) (a8c G) (G.nodes.take k) (L.take k))∧Sep w wr [.box w.heap.size 28 [.slice A na ca,.string G.names,.slice B nb cb,.slice C nc cc]]∧Below wc.heap.size wc wr) (fun iv _ _=>nb-(intOf iv).toNat)
     case atStart=>exact⟨0,rfl,by omega,by rw[HT1.out];rfl,H,Below.refl _ _⟩
     case round =>
      clear H hT0s hs1 hsz g0 g1 g2 g3;obtain⟨k,rfl,hk,rfl,hS,hbr⟩:=hrel;have H:=Hd hS;have HBR:=Hd hbr;clear hS hbr;obtain⟨g0,g1,g2,g3⟩:=H.cells4 0 rfl;have hsz:=b0a HF hq (a0a G.names) (L.take k) k (a8c G);by_cases hlt:k<nb
      ·obtain⟨nd,hnd⟩:∃ nd,G.nodes[k]?=some nd:=gE (by have:=HL.inB.1;omega);obtain⟨s,hs⟩:∃ s,L[k]?=some s:=gE (by have:=HLL.out;omega);obtain⟨la,S,ns,cs,D,nD,cD,E,ne,ce,hla,hlb,k0,k1,k2,k3,k4,k5,k6,hNL⟩:=HL.inB.2.2 k nd hnd;subst hla;obtain⟨c0,c1,c2,c3,c4,c5,c6⟩:=old7 H hlb k0 k1 k2 k3 k4 k5 k6;obtain⟨hF1,hF2,hF3⟩:=HF.each k nd hnd;have hns:ns≤80000:=by have:=hNL.inA.len;omega
       have hnD:nD≤80000:=by have:=hNL.inB.len;omega
       have hne:ne≤80000:=by have:=hNL.inC.len;omega
       have HST:=Hd (b8c (nm:=a0a G.names) (o:=a8c G) hnd hs);have y1:=a4e nd.ins;have y2:=a4e nd.shape;have y3:=a4e nd.a;have y0:=b4r nd.op;have y4:=a3y nd.n;have y5:=a3y nd.how;have HNL:=Hd (hNL.below H.base);have HS:=Hd hs;clear k0 k1 k2 k3 k4 k5 k6 hNL hnd hs;have h3:=H.allocBox wr.heap.size 49 [.int .i64 nd.op,.slice S ns cs,.slice D nD cD,.slice E ne ce,.int .i64 nd.n,.int .i64 nd.how,.string nd.note] rfl;have hb3:Below wr.heap.size wr (wr.alloc (.cells #[.int .i64 nd.op,.slice S ns cs,.slice D nD cD,.slice E ne ce,.int .i64 nd.n,.int .i64 nd.how,.string nd.note] 49)):=(Below.refl _ _).alloc (Nat.le_refl _) _
       go_upto_region 16 with fail
       generalize wr.alloc (.cells #[.int .i64 nd.op,.slice S ns cs,.slice D nD cD,.slice E ne ce,.int .i64 nd.n,.int .i64 nd.how,.string nd.note] 49)=w3 at *;replace HNL:=Hd (HNL.below hb3);replace HBR:=Hd (a1c HBR hb3);generalize wr.heap.size=gn at *;replace H:=Hd h3;clear h3 hb3 c0 c1 c2 c3 c4 c5 c6 g0 g1 g2 g3;obtain⟨n0,n1,n2,n3,n4,n5,n6⟩:=H.cells7 0 rfl;obtain⟨g0,g1,g2,g3⟩:=H.cells4 1 rfl;obtain⟨a2,B9,m9,c9,hA2,hab2,ck,hmc9,hI9⟩:=(HL2.below HBR).2.2 k s HS;subst hA2;have hS9:s.length=m9:=hI9.len;have hkm:k<m2:=by have h8:=HL2.out.1;have h9:=HLL.out;omega
       have y6:=b4s (a0a G.names) nd.note (m9:Int);rw[a9z,hS9] at HST;obtain⟨T1,hT1⟩:∃ T1,a4i (a0a G.names) (a8c G) (G.nodes.take k) (L.take k)=T1:=⟨_,rfl⟩;rw[hT1] at HST hsz ⊢;have q0:=fun w:World=>c3q w nd.op
       have q1:=fun (w' : World) (hb:Below w3.heap.size w3 w')=>a9e (c:=cs) (HNL.inA.below hb) (by omega)
       have q2:=fun (w' : World) (hb:Below w3.heap.size w3 w')=>a9e (c:=cD) (HNL.inB.below hb) (by omega)
       have q3:=fun (w' : World) (hb:Below w3.heap.size w3 w')=>a9e (c:=ce) (HNL.inC.below hb) (by omega)
       have q4:=fun w:World=>a2d (w:=w) HNL.n
       have q5:=fun w:World=>a2d (w:=w) HNL.how
       have q6:=fun (w' : World) (hb:Below w3.heap.size w3 w')=>b3n (HG.below (a1c H.base hb)) (u:=.agg #[.int .i64 nd.op,.slice S ns cs,.slice D nD cD,.slice E ne ce,.int .i64 nd.n,.int .i64 nd.how,.string nd.note]) (nd:=nd) ⟨_,_,_,_,_,_,_,_,_,rfl,HNL.below hb⟩ (m9:Int)
       obtain⟨N0,e0⟩:∃ T,a5s nd.op=T:=⟨_,rfl⟩;rw[e0] at HST q0 y0;have Q0:=Hd q0;obtain⟨L1,e1⟩:∃ T,a7c nd.ins=T:=⟨_,rfl⟩;rw[e1] at HST q1 y1;have Q1:=Hd q1;obtain⟨L2,e2⟩:∃ T,a7c nd.shape=T:=⟨_,rfl⟩;rw[e2] at HST q2 y2;have Q2:=Hd q2;obtain⟨L3,e3⟩:∃ T,a7c nd.a=T:=⟨_,rfl⟩;rw[e3] at HST q3 y3;have Q3:=Hd q3;obtain⟨M4,e4⟩:∃ T,numT nd.n=T:=⟨_,rfl⟩;rw[e4] at HST q4 y4;have Q4:=Hd q4;obtain⟨M5,e5⟩:∃ T,numT nd.how=T:=⟨_,rfl⟩;rw[e5] at HST q5 y5;have Q5:=Hd q5;obtain⟨T6,e6⟩:∃ T,a4o (a0a G.names) nd.note (m9:Int)=T:=⟨_,rfl⟩;rw[e6] at HST q6 y6;have Q6:=Hd q6;clear hT1 e0 q0 e1 q1 e2 q2 e3 q3 e4 q4 e5 q5 e6 q6
       have HK:Hid (∀ w' w'' : World,(w'.cell? ⟨gn,0,none⟩=some (.int .i64 nd.op)∧w'.cell? ⟨gn,1,none⟩=some (.slice S ns cs)∧w'.cell? ⟨gn,2,none⟩=some (.slice D nD cD)∧w'.cell? ⟨gn,3,none⟩=some (.slice E ne ce)∧w'.cell? ⟨gn,4,none⟩=some (.int .i64 nd.n)∧w'.cell? ⟨gn,5,none⟩=some (.int .i64 nd.how)∧w'.cell? ⟨gn,6,none⟩=some (.string nd.note)∧w'.cell? ⟨w.heap.size,0,none⟩=some (.slice A na ca)∧w'.cell? ⟨w.heap.size,1,none⟩=some (.string G.names)∧w'.cell? ⟨w.heap.size,2,none⟩=some (.slice (some la) nb cb)∧w'.cell? ⟨w.heap.size,3,none⟩=some (.slice C nc cc)∧w'.cell? (a2.add k)=some (.slice B9 m9 c9))→Below w'.heap.size w' w'' → (w''.cell? ⟨gn,0,none⟩=some (.int .i64 nd.op)∧w''.cell? ⟨gn,1,none⟩=some (.slice S ns cs)∧w''.cell? ⟨gn,2,none⟩=some (.slice D nD cD)∧w''.cell? ⟨gn,3,none⟩=some (.slice E ne ce)∧w''.cell? ⟨gn,4,none⟩=some (.int .i64 nd.n)∧w''.cell? ⟨gn,5,none⟩=some (.int .i64 nd.how)∧w''.cell? ⟨gn,6,none⟩=some (.string nd.note)∧w''.cell? ⟨w.heap.size,0,none⟩=some (.slice A na ca)∧w''.cell? ⟨w.heap.size,1,none⟩=some (.string G.names)∧w''.cell? ⟨w.heap.size,2,none⟩=some (.slice (some la) nb cb)∧w''.cell? ⟨w.heap.size,3,none⟩=some (.slice C nc cc)∧w''.cell? (a2.add k)=some (.slice B9 m9 c9))):=Hd (by
        rintro w' w'' ⟨s0,s1,s2,s3,s4,s5,s6,s7,s8,s9,s10,s11⟩ hb
        exact⟨kC hb s0,kC hb s1,kC hb s2,kC hb s3,kC hb s4,kC hb s5,kC hb s6,kC hb s7,kC hb s8,kC hb s9,kC hb s10,kC hb s11⟩)
       refine qR (C:=Cl w3 (fun w'=>w'.cell? ⟨gn,0,none⟩=some (.int .i64 nd.op)∧w'.cell? ⟨gn,1,none⟩=some (.slice S ns cs)∧w'.cell? ⟨gn,2,none⟩=some (.slice D nD cD)∧w'.cell? ⟨gn,3,none⟩=some (.slice E ne ce)∧w'.cell? ⟨gn,4,none⟩=some (.int .i64 nd.n)∧w'.cell? ⟨gn,5,none⟩=some (.int .i64 nd.how)∧w'.cell? ⟨gn,6,none⟩=some (.string nd.note)∧w'.cell? ⟨w.heap.size,0,none⟩=some (.slice A na ca)∧w'.cell? ⟨w.heap.size,1,none⟩=some (.string G.names)∧w'.cell? ⟨w.heap.size,2,none⟩=some (.slice (some la) nb cb)∧w'.cell? ⟨w.heap.size,3,none⟩=some (.slice C nc cc)∧w'.cell? (a2.add k)=some (.slice B9 m9 c9))) (⟨a1h (Below.refl _ _) 1,n0,n1,n2,n3,n4,n5,n6,g0,g1,g2,g3,ck⟩) ?_;refine qV ?_;refine qV ?_;refine qV ?_;refine qC ((fun w hw=>(Q0 w).mono fun e w' h=>⟨h.1,a1c hw.1 h.2,HK w w' hw.2 h.2⟩)) ?_;refine qV ?_;refine qV ?_;refine qV ?_;refine qC ((fun w hw=>(Q1 w hw.1).mono fun e w' h=>⟨h.1,by rw[h.2];exact hw⟩)) ?_;refine qV ?_;refine qV ?_;refine qV ?_;refine qC ((fun w hw=>(Q2 w hw.1).mono fun e w' h=>⟨h.1,by rw[h.2];exact hw⟩)) ?_;refine qV ?_;refine qV ?_;refine qV ?_;refine qC ((fun w hw=>(Q3 w hw.1).mono fun e w' h=>⟨h.1,by rw[h.2];exact hw⟩)) ?_;refine qV ?_;refine qV ?_;refine qV ?_;refine qV ?_;refine qC ((fun w hw=>(Q4 w).mono fun e w' h=>⟨h.1,by rw[h.2];exact hw⟩)) ?_;refine qV ?_;refine qV ?_;refine qV ?_;refine qV ?_;refine qC ((fun w hw=>(Q5 w).mono fun e w' h=>⟨h.1,by rw[h.2];exact hw⟩)) ?_;refine qV ?_;refine qV ?_;refine qV ?_;refine qV ?_;refine qV ?_;refine qV ?_;refine qV ?_;refine qV ?_;refine qV ?_;refine qC ((fun w hw=>(Q6 w hw.1).mono fun e w' h=>⟨h.1,a1c hw.1 h.2,HK w w' hw.2 h.2⟩)) ?_;refine qV ?_;refine qV ?_;refine qV ?_;refine wpQuiet_nil ?_;intro w9 hw9;have HW9:=Hd hw9;clear hw9 n0 n1 n2 n3 n4 n5 n6 g0 g1 g2 g3 ck y0 y1 y2 y3 y4 y5 y6;go_wp2;go_roundw
       case rel=>exact⟨k+1,by go_num,by omega,by rw[HST.out];rfl,(H.below HW9.out.1).sub [1] rfl (by decide),a1c HBR HW9.out.1⟩
       case measure=>simp[intOf];omega
      ·have hkn:nb=k:=by omega
       subst hkn;have hz9:G.nodes.take nb=G.nodes:=List.take_of_length_le (by have:=HL.inB.1;omega);have hz8:L.take nb=L:=List.take_of_length_le (by have:=HLL.out;omega);rw[hz9,hz8] at hsz ⊢;obtain⟨T2,hT2⟩:∃ T,a4i (a0a G.names) (a8c G) G.nodes L=T:=⟨_,rfl⟩;rw[hT2] at hsz ⊢;have HT2:=Hd hT2;clear hz9 hz8 hT2;have hs1:T2.size+(⟨#[111,117,116,115]⟩:ByteArray).size≤9223372036854775807:=by have:(⟨#[111,117,116,115]⟩:ByteArray).size=4:=rfl;omega
       obtain⟨T3,hT3⟩:∃ T,T2++a9p=T:=⟨_,rfl⟩;have HT3:=Hd hT3;have hsz3:T3.size≤(a8c G).size+422410240004:=by rw[←hT3,ByteArray.size_append];show _+4≤_;omega
       clear hT3 hsz;have HC:=Hd (HL.inC.below H.base);have HCL:=Hd HL.inC.len
       go_wp2_with fail
       go_loop [95,6] (fun iv sv=>∃ k:Nat,k≤nc∧iv=.int .i64 k∧sv=.string (a3j T3 (G.outs.take k))) (fun iv _=>nc-(intOf iv).toNat)
       case atStart=>exact⟨0,Nat.zero_le _,rfl,by rw[←HT3.out];rfl⟩
       case round =>
        obtain⟨j,hj,rfl,rfl⟩:=hrel;have hsz:=a4s G.outs j T3 (by have:=HCL.out;omega);by_cases hlt:j<nc
        ·obtain⟨sa,x,rfl,_,hx,hcx,hfx⟩:=HC.at_ hlt;have HST:=Hd (b1k T3 hx);obtain⟨T1,hT1⟩:∃ T1,a3j T3 (G.outs.take j)=T1:=⟨_,rfl⟩;rw[hT1] at hsz HST ⊢;have hnx:=a3y x;obtain⟨D,hD⟩:∃ D,numT x=D:=⟨_,rfl⟩;have CN:=a2d (w:=wr) hfx;rw[hD] at CN hnx HST;clear hx hT1 hD hs1;have hs1:T1.size+(⟨#[32]⟩:ByteArray).size≤9223372036854775807:=by have:(⟨#[32]⟩:ByteArray).size=1:=rfl;omega
         have hs2:(T1++⟨#[32]⟩).size+D.size≤9223372036854775807:=by rw[ByteArray.size_append];have:(⟨#[32]⟩:ByteArray).size=1:=rfl;omega
         go_wp2_with fail
         refine CN.mono ?_;rintro e1 w1 ⟨rfl,rfl⟩;clear CN;go_wp2;go_round
         case rel=>exact⟨j+1,by omega,by go_num,by rw[HST.out];rfl⟩
         case measure=>simp[intOf];omega
        ·have hjn:nc=j:=by omega
         subst hjn;have hz9:G.outs.take nc=G.outs:=List.take_of_length_le (by have:=HCL.out;omega);rw[hz9] at hsz ⊢;obtain⟨T4,hT4⟩:∃ T,a3j T3 G.outs=T:=⟨_,rfl⟩;rw[hT4] at hsz ⊢;clear hs1;have hs1:T4.size+(⟨#[10]⟩:ByteArray).size≤9223372036854775807:=by have:(⟨#[10]⟩:ByteArray).size=1:=rfl;omega
         have HT4:=Hd (show a3f G L=T4++⟨#[10]⟩ by rw[a3f,HT2.out,HT3.out,hT4];rfl);clear hz9 hT4;obtain⟨T5,hT5⟩:∃ T:ByteArray,T4++⟨#[10]⟩=T:=⟨_,rfl⟩;have HT5:=Hd hT5;rw[hT5] at HT4;by_cases hbig:65536<T5.size
         ·have dbig:decide (65536<T5.size)=true:=decide_eq_true hbig;have HX:=Hd (show a4f G=(⟨#[]⟩,3) from a6u (by rw[HE.out]) (by rw[HE.out];show 65536<(a3f G L).size;rw[HT4.out];exact hbig));go_wp2;go_ret2;exact⟨by rw[HX.out];rfl,H.base⟩
         ·have dbig:decide (65536<T5.size)=false:=decide_eq_false hbig;have HX:=Hd (show a4f G=(T5,0) by rw[a9i (by rw[HE.out]) (by rw[HE.out];show ¬ 65536<(a3f G L).size;rw[HT4.out];exact hbig),HE.out];show(a3f G L,(0:Int))=_;rw[HT4.out]);go_wp2;go_ret2;exact⟨by rw[HX.out];rfl,H.base⟩
 ·have dz:(e0 != 0)=true:=by simpa using hz
  have HX:=Hd (show a4f G=(⟨#[]⟩,e0) by rw[b0s (by rw[HE.out];exact hz),HE.out]);go_wp2;go_ret2;exact⟨by rw[HX.out];rfl,H.base⟩
end Go.Proofs.YtdcmanhgekjhgaaGreatDoor
