import Derived.Test.YtajhdeddgdhccaaGreatDoorPbb
set_option maxRecDepth 100000
set_option maxHeartbeats 12800000
namespace Go.Proofs.YtajhdeddgdhccaaGreatDoor
open Go.RowKit Go.Proofs.Tryz
variable {A:Option Addr} {G:a2g} {a xs:List Int} {c n r:Nat} {v:Value} {w w':World}
theorem b7w {u:Value}{nd:a0p}(hG:a3r w v G)(hN:a4x w u nd)(rank:Int):
  Calls prog 36 #[v,u,.int .i64 rank] w fun e w'=>e=.returned (.string (a7z (a0b G.names) nd.note rank))∧Below w.heap.size w w':=by
 obtain⟨A,na,ca,B,nb,cb,C,nc,cc,rfl,hL⟩:=hG;obtain⟨S,ns,cs,T,nt,ct,U,nu,cu,rfl,hM⟩:=hN;have HS:=Hd hL.names;have C1:=fun w:World=>b2e (w:=w) (s:=G.names) (t:=nd.note) rank hL.names hM.note
 have HC1:=Hd C1;obtain⟨nm,hnm⟩:∃ l,a0b G.names=l:=⟨_,rfl⟩;have HNM:=Hd hnm;clear hL hM C1 hnm;have h1:=((Sep.nil w).allocBox w.heap.size 26 [.slice A na ca,.string G.names,.slice B nb cb,.slice C nc cc] rfl).allocBox (w.heap.size+1) 37 [.int .i64 nd.op,.slice S ns cs,.slice T nt ct,.slice U nu cu,.int .i64 nd.n,.int .i64 nd.how,.string nd.note] (by simp)
 go_enter func36,ntmps36
 go_upto_region 1 with fail
 generalize ((w.alloc (.cells #[.slice A na ca,.string G.names,.slice B nb cb,.slice C nc cc] 26)).alloc (.cells #[.int .i64 nd.op,.slice S ns cs,.slice T nt ct,.slice U nu cu,.int .i64 nd.n,.int .i64 nd.how,.string nd.note] 37))=w1 at *;have H:=Hd h1;clear h1;have g1:=H.c 1 1;have g6:=H.c 0 6
 go_wp2_with fail
 refine(HC1 w1).mono ?_;rintro e1 w2 ⟨⟨x,m,rfl,hO⟩,hb⟩;replace H:=Hd (H.below hb);have HO:=Hd hO;clear hO hb g1 g6;rw[HNM.out] at HO;have g1:=H.c 1 1
 cases hc:(a4p nm (a0b nd.note) rank).2.1 with
 | false =>
  rw[HNM.out,hc];have HQ:=Hd (show a7z nm nd.note rank=c6k by rw[a7z,hc];rfl);clear hc;go_wp2;go_ret
  exact⟨by rw[HNM.out,HQ.out];rfl,H.base⟩
 | true =>
  rw[HNM.out,hc];have HQ:=Hd (show a7z nm nd.note rank=a3p nm (a4p nm (a0b nd.note) rank).1 by rw[a7z,hc];rfl);have hlen:=b0e nm (a0b nd.note) rank;have hml:=HO.len;obtain⟨X,xc,rfl,hxc,hI,_⟩:=HO.form;have C2:=b2f (c:=xc) HS hI (by omega);rw[HNM.out,←HQ.out] at C2;have HC2:=Hd C2;clear hc hlen hml hI C2
  go_wp2_with fail
  refine HC2.mono ?_;rintro e3 w3 ⟨rfl,hb⟩;go_wp2;go_ret;exact⟨by rw[HNM.out];rfl,a1t H.base hb⟩
theorem kC {p:Addr}(hb:Below w.heap.size w w')(h:w.cell? p=some v):w'.cell? p=some v:=(hb.cell (block_lt_of_cell h)).trans h
theorem b7x {q:Nat}(h:a3r w v G)(hF:FewG q G)(hq:q≤800:=by omega):
  Calls prog 14 #[v] w fun e w'=>e=.returned (.tuple #[.string (a5y G).1,.int .i64 (a5y G).2])∧Below w.heap.size w w':=by
 have HG:=h;obtain⟨A,na,ca,B,nb,cb,C,nc,cc,rfl,hL⟩:=h;replace HG:=Hd HG;have C1:=fun w:World=>b3z (w:=w) (v:=.agg #[.slice A na ca,.string G.names,.slice B nb cb,.slice C nc cc]) (G:=G)
 have HC1:=Hd C1;have HL:=Hd hL;have HF:=Hd hF;have hnb:nb≤800:=by have:=hF.nodes;have:=hL.inB.1;omega
 have hnc:nc≤800:=by have:=hF.outs;have:=hL.inC.len;omega
 have hna:na≤800:=by have:=hF.sizes;have:=hL.inA.len;omega
 have hnm:=hL.names;have h1:=(Sep.nil w).allocBox w.heap.size 26 [.slice A na ca,.string G.names,.slice B nb cb,.slice C nc cc] rfl;clear C1 hL hF
 go_enter func14,ntmps14
 go_upto_region 1 with fail
 generalize w.alloc (.cells #[.slice A na ca,.string G.names,.slice B nb cb,.slice C nc cc] 26)=W at *;have H:=Hd h1;clear h1;obtain⟨g0,g1,g2,g3⟩:=H.cells4 0 rfl;obtain⟨⟨e0,L⟩,he⟩:∃ r,a0z G=r:=⟨_,rfl⟩;have C2:=HC1.out W (HG.below H.base) (fun j nd hj=>Nat.le_trans (HF.small j nd hj) hq);rw[he] at C2;have HE:=Hd he;have HC2:=Hd C2;clear HC1 C2 he
 go_wp2_with fail
 refine HC2.mono ?_;rintro e2 w2 ⟨⟨A2,m2,c2,rfl,hc2,hL2⟩,hb2⟩;replace H:=Hd (H.below hb2);have HL2:=Hd hL2;clear hb2 hL2 HC2 g0 g1 g2 g3;by_cases hz:e0=0
 ·have dz:(e0 != 0)=false:=by simpa using hz
  subst hz;obtain⟨g0,g1,g2,g3⟩:=H.cells4 0 rfl;obtain⟨hgo,hll⟩:=b2i (G:=G) (by rw[HE.out]);rw[HE.out] at hgo hll;have HLL:=Hd (show L.length=nb by have h9:L.length=G.nodes.length:=hll;have:=HL.inB.1;omega);clear hgo hll;obtain⟨T0,hT0⟩:∃ T0,(if G.names=⟨#[]⟩ then b9j else b9k++G.names)=T0:=⟨_,rfl⟩
  have hT0s:T0.size≤G.names.size+6:=by
   rw[←hT0];split
   ·show 6≤_;omega
   ·rw[ByteArray.size_append];show 5+_≤_;omega
  have HT0:=Hd hT0;clear hT0
  go_upto_if 21 with fail
  go_cut [6] (fun sv wx=>sv=.string T0∧wx=w2)
  case first =>
   have hs5:(⟨#[109,101,115,104,32]⟩:ByteArray).size+G.names.size≤9223372036854775807:=by have:(⟨#[109,101,115,104,32]⟩:ByteArray).size=5:=rfl;omega
   by_cases hne:G.names=⟨#[]⟩
   ·have hem0:G.names.toList.isEmpty=true:=by rw[hne,ByteArray.toList_eq];rfl
    have hem:(!G.names.toList.isEmpty)=false:=by rw[hem0];rfl
    have HQ:=Hd (show T0=b9j by rw[←HT0.out,iP hne]);rw[hem];clear hne hem hem0
    go_wp2_with fail
    go_meet;exact⟨by rw[HQ.out];rfl,rfl⟩
   ·have hem0:G.names.toList.isEmpty=false:=by
     cases he:G.names.toList.isEmpty with
     | false=>rfl
     | true =>
      exfalso;apply hne
      have:=List.isEmpty_iff.1 he;apply ByteArray.ext;rw[ByteArray.toList_eq] at this;exact Array.toList_inj.1 this
    have hem:(!G.names.toList.isEmpty)=true:=by rw[hem0];rfl
    have HQ:=Hd (show T0=b9k++G.names by rw[←HT0.out,iN hne]);rw[hem];clear hne hem hem0
    go_wp2_with fail
    go_meet;exact⟨by rw[HQ.out];rfl,rfl⟩
  case rest =>
   obtain⟨rfl,rfl⟩:=hcut;have HA:=Hd (HL.inA.below H.base);have HAL:=Hd HL.inA.len
   go_wp2_with fail
   go_loop [28,6] (fun iv sv=>∃ k:Nat,k≤na∧iv=.int .i64 k∧sv=.string (a1w T0 (G.sizes.take k))) (fun iv _=>na-(intOf iv).toNat)
   case atStart=>exact⟨0,Nat.zero_le _,rfl,rfl⟩
   case round =>
    obtain⟨k,hk,rfl,rfl⟩:=hrel;have hsz:=a3n G.sizes k T0 (by have:=HAL.out;omega);by_cases hlt:k<na
    ·obtain⟨sa,x,rfl,_,hx,hcx,hfx⟩:=HA.at_ hlt;have HST:=Hd (a8s T0 hx);obtain⟨T1,hT1⟩:∃ T1,a1w T0 (G.sizes.take k)=T1:=⟨_,rfl⟩;rw[hT1] at hsz HST ⊢;have hnx:=a3c x;obtain⟨D,hD⟩:∃ D,numT x=D:=⟨_,rfl⟩;have CN:=a1p (w:=wc) hfx;rw[hD] at CN hnx HST;clear hx hT1 hD;have hs1:T1.size+(⟨#[32]⟩:ByteArray).size≤9223372036854775807:=by have:(⟨#[32]⟩:ByteArray).size=1:=rfl;omega
     have hs2:(T1++⟨#[32]⟩).size+D.size≤9223372036854775807:=by rw[ByteArray.size_append];have:(⟨#[32]⟩:ByteArray).size=1:=rfl;omega
     go_wp2_with fail
     refine CN.mono ?_;rintro e1 w1 ⟨rfl,rfl⟩;clear CN;go_wp2;go_round
     case rel=>exact⟨k+1,by omega,by go_num,by rw[HST.out];rfl⟩
     case measure=>simp[intOf];omega
    ·have hkn:na=k:=by omega
     subst hkn;have HX:=Hd (show G.sizes.take na=G.sizes from List.take_of_length_le (by have:=HAL.out;omega));rw[HX.out] at hsz ⊢;obtain⟨T1,hT1⟩:∃ T1,a1w T0 G.sizes=T1:=⟨_,rfl⟩;rw[hT1] at hsz ⊢;have HT1:=Hd (show a5d G=T1++lfT by rw[a5d,HT0.out,hT1]);have hs1:T1.size+(⟨#[10]⟩:ByteArray).size≤9223372036854775807:=by have:(⟨#[10]⟩:ByteArray).size=1:=rfl;omega
     have hM:(a5d G).size≤17592186100000:=by have:=b1i G;have:=HAL.out;omega
     clear hT1
     go_wp2_with fail
     go_loopw [46,6] (fun iv sv wr=>∃ k:Nat,iv=.int .i64 k∧k≤nb∧sv=.string (a3b (a0b G.names) (a5d G) (G.nodes.take k) (L.take k))∧Sep w wr [.box w.heap.size 26 [.slice A na ca,.string G.names,.slice B nb cb,.slice C nc cc]]∧Below wc.heap.size wc wr) (fun iv _ _=>nb-(intOf iv).toNat)
     case atStart=>exact⟨0,rfl,by omega,by rw[HT1.out];rfl,H,Below.refl _ _⟩
     case round =>
      clear H hT0s hs1 hsz g0 g1 g2 g3;obtain⟨k,rfl,hk,rfl,hS,hbr⟩:=hrel;have H:=Hd hS;have HBR:=Hd hbr;clear hS hbr;obtain⟨g0,g1,g2,g3⟩:=H.cells4 0 rfl;have hsz:=a7u HF hq (a0b G.names) (L.take k) k (a5d G);by_cases hlt:k<nb
      ·obtain⟨nd,hnd⟩:∃ nd,G.nodes[k]?=some nd:=gE (by have:=HL.inB.1;omega);obtain⟨s,hs⟩:∃ s,L[k]?=some s:=gE (by have:=HLL.out;omega);obtain⟨la,S,ns,cs,D,nD,cD,E,ne,ce,hla,hlb,k0,k1,k2,k3,k4,k5,k6,hNL⟩:=HL.inB.2.2 k nd hnd;subst hla;obtain⟨c0,c1,c2,c3,c4,c5,c6⟩:=old7 H hlb k0 k1 k2 k3 k4 k5 k6;obtain⟨hF1,hF2,hF3⟩:=HF.each k nd hnd;have hns:ns≤800:=by have:=hNL.inA.len;omega
       have hnD:nD≤800:=by have:=hNL.inB.len;omega
       have hne:ne≤800:=by have:=hNL.inC.len;omega
       have HST:=Hd (b3t (nm:=a0b G.names) (o:=a5d G) hnd hs);have y1:=a3g nd.ins;have y2:=a3g nd.shape;have y3:=a3g nd.a;have y0:=b1j nd.op;have y4:=a3c nd.n;have y5:=a3c nd.how;have HNL:=Hd (hNL.below H.base);have HS:=Hd hs;clear k0 k1 k2 k3 k4 k5 k6 hNL hnd hs;have h3:=H.allocBox wr.heap.size 37 [.int .i64 nd.op,.slice S ns cs,.slice D nD cD,.slice E ne ce,.int .i64 nd.n,.int .i64 nd.how,.string nd.note] rfl;have hb3:Below wr.heap.size wr (wr.alloc (.cells #[.int .i64 nd.op,.slice S ns cs,.slice D nD cD,.slice E ne ce,.int .i64 nd.n,.int .i64 nd.how,.string nd.note] 37)):=(Below.refl _ _).alloc (Nat.le_refl _) _
       go_upto_region 16 with fail
       generalize wr.alloc (.cells #[.int .i64 nd.op,.slice S ns cs,.slice D nD cD,.slice E ne ce,.int .i64 nd.n,.int .i64 nd.how,.string nd.note] 37)=w3 at *;replace HNL:=Hd (HNL.below hb3);replace HBR:=Hd (a1t HBR hb3);generalize wr.heap.size=gn at *;replace H:=Hd h3;clear h3 hb3 c0 c1 c2 c3 c4 c5 c6 g0 g1 g2 g3;obtain⟨n0,n1,n2,n3,n4,n5,n6⟩:=H.cells7 0 rfl;obtain⟨g0,g1,g2,g3⟩:=H.cells4 1 rfl;obtain⟨a2,B9,m9,c9,hA2,hab2,ck,hmc9,hI9⟩:=(HL2.below HBR).2.2 k s HS;subst hA2;have hS9:s.length=m9:=hI9.len;have hkm:k<m2:=by have h8:=HL2.out.1;have h9:=HLL.out;omega
       have y6:=b6k (a0b G.names) nd.note (m9:Int);rw[a8w,hS9] at HST;obtain⟨T1,hT1⟩:∃ T1,a3b (a0b G.names) (a5d G) (G.nodes.take k) (L.take k)=T1:=⟨_,rfl⟩;rw[hT1] at HST hsz ⊢;have q0:=fun w:World=>b0k w nd.op
       have q1:=fun (w' : World) (hb:Below w3.heap.size w3 w')=>a7e (c:=cs) (HNL.inA.below hb) (by omega)
       have q2:=fun (w' : World) (hb:Below w3.heap.size w3 w')=>a7e (c:=cD) (HNL.inB.below hb) (by omega)
       have q3:=fun (w' : World) (hb:Below w3.heap.size w3 w')=>a7e (c:=ce) (HNL.inC.below hb) (by omega)
       have q4:=fun w:World=>a1p (w:=w) HNL.n
       have q5:=fun w:World=>a1p (w:=w) HNL.how
       have q6:=fun (w' : World) (hb:Below w3.heap.size w3 w')=>b7w (HG.below (a1t H.base hb)) (u:=.agg #[.int .i64 nd.op,.slice S ns cs,.slice D nD cD,.slice E ne ce,.int .i64 nd.n,.int .i64 nd.how,.string nd.note]) (nd:=nd) ⟨_,_,_,_,_,_,_,_,_,rfl,HNL.below hb⟩ (m9:Int)
       obtain⟨N0,e0⟩:∃ T,a5e nd.op=T:=⟨_,rfl⟩;rw[e0] at HST q0 y0;have Q0:=Hd q0;obtain⟨L1,e1⟩:∃ T,a4z nd.ins=T:=⟨_,rfl⟩;rw[e1] at HST q1 y1;have Q1:=Hd q1;obtain⟨L2,e2⟩:∃ T,a4z nd.shape=T:=⟨_,rfl⟩;rw[e2] at HST q2 y2;have Q2:=Hd q2;obtain⟨L3,e3⟩:∃ T,a4z nd.a=T:=⟨_,rfl⟩;rw[e3] at HST q3 y3;have Q3:=Hd q3;obtain⟨M4,e4⟩:∃ T,numT nd.n=T:=⟨_,rfl⟩;rw[e4] at HST q4 y4;have Q4:=Hd q4;obtain⟨M5,e5⟩:∃ T,numT nd.how=T:=⟨_,rfl⟩;rw[e5] at HST q5 y5;have Q5:=Hd q5;obtain⟨T6,e6⟩:∃ T,a7z (a0b G.names) nd.note (m9:Int)=T:=⟨_,rfl⟩;rw[e6] at HST q6 y6;have Q6:=Hd q6;clear hT1 e0 q0 e1 q1 e2 q2 e3 q3 e4 q4 e5 q5 e6 q6
       have HK:Hid (∀ w' w'' : World,(w'.cell? ⟨gn,0,none⟩=some (.int .i64 nd.op)∧w'.cell? ⟨gn,1,none⟩=some (.slice S ns cs)∧w'.cell? ⟨gn,2,none⟩=some (.slice D nD cD)∧w'.cell? ⟨gn,3,none⟩=some (.slice E ne ce)∧w'.cell? ⟨gn,4,none⟩=some (.int .i64 nd.n)∧w'.cell? ⟨gn,5,none⟩=some (.int .i64 nd.how)∧w'.cell? ⟨gn,6,none⟩=some (.string nd.note)∧w'.cell? ⟨w.heap.size,0,none⟩=some (.slice A na ca)∧w'.cell? ⟨w.heap.size,1,none⟩=some (.string G.names)∧w'.cell? ⟨w.heap.size,2,none⟩=some (.slice (some la) nb cb)∧w'.cell? ⟨w.heap.size,3,none⟩=some (.slice C nc cc)∧w'.cell? (a2.add k)=some (.slice B9 m9 c9))→Below w'.heap.size w' w'' → (w''.cell? ⟨gn,0,none⟩=some (.int .i64 nd.op)∧w''.cell? ⟨gn,1,none⟩=some (.slice S ns cs)∧w''.cell? ⟨gn,2,none⟩=some (.slice D nD cD)∧w''.cell? ⟨gn,3,none⟩=some (.slice E ne ce)∧w''.cell? ⟨gn,4,none⟩=some (.int .i64 nd.n)∧w''.cell? ⟨gn,5,none⟩=some (.int .i64 nd.how)∧w''.cell? ⟨gn,6,none⟩=some (.string nd.note)∧w''.cell? ⟨w.heap.size,0,none⟩=some (.slice A na ca)∧w''.cell? ⟨w.heap.size,1,none⟩=some (.string G.names)∧w''.cell? ⟨w.heap.size,2,none⟩=some (.slice (some la) nb cb)∧w''.cell? ⟨w.heap.size,3,none⟩=some (.slice C nc cc)∧w''.cell? (a2.add k)=some (.slice B9 m9 c9))):=Hd (by
        rintro w' w'' ⟨s0,s1,s2,s3,s4,s5,s6,s7,s8,s9,s10,s11⟩ hb
        exact⟨kC hb s0,kC hb s1,kC hb s2,kC hb s3,kC hb s4,kC hb s5,kC hb s6,kC hb s7,kC hb s8,kC hb s9,kC hb s10,kC hb s11⟩)
       refine qR (C:=Cl w3 (fun w'=>w'.cell? ⟨gn,0,none⟩=some (.int .i64 nd.op)∧w'.cell? ⟨gn,1,none⟩=some (.slice S ns cs)∧w'.cell? ⟨gn,2,none⟩=some (.slice D nD cD)∧w'.cell? ⟨gn,3,none⟩=some (.slice E ne ce)∧w'.cell? ⟨gn,4,none⟩=some (.int .i64 nd.n)∧w'.cell? ⟨gn,5,none⟩=some (.int .i64 nd.how)∧w'.cell? ⟨gn,6,none⟩=some (.string nd.note)∧w'.cell? ⟨w.heap.size,0,none⟩=some (.slice A na ca)∧w'.cell? ⟨w.heap.size,1,none⟩=some (.string G.names)∧w'.cell? ⟨w.heap.size,2,none⟩=some (.slice (some la) nb cb)∧w'.cell? ⟨w.heap.size,3,none⟩=some (.slice C nc cc)∧w'.cell? (a2.add k)=some (.slice B9 m9 c9))) (⟨a1l (Below.refl _ _) 1,n0,n1,n2,n3,n4,n5,n6,g0,g1,g2,g3,ck⟩) ?_;refine qV ?_;refine qV ?_;refine qV ?_;refine qC ((fun w hw=>(Q0 w).mono fun e w' h=>⟨h.1,a1t hw.1 h.2,HK w w' hw.2 h.2⟩)) ?_;refine qV ?_;refine qV ?_;refine qV ?_;refine qC ((fun w hw=>(Q1 w hw.1).mono fun e w' h=>⟨h.1,by rw[h.2];exact hw⟩)) ?_;refine qV ?_;refine qV ?_;refine qV ?_;refine qC ((fun w hw=>(Q2 w hw.1).mono fun e w' h=>⟨h.1,by rw[h.2];exact hw⟩)) ?_;refine qV ?_;refine qV ?_;refine qV ?_;refine qC ((fun w hw=>(Q3 w hw.1).mono fun e w' h=>⟨h.1,by rw[h.2];exact hw⟩)) ?_;refine qV ?_;refine qV ?_;refine qV ?_;refine qV ?_;refine qC ((fun w hw=>(Q4 w).mono fun e w' h=>⟨h.1,by rw[h.2];exact hw⟩)) ?_;refine qV ?_;refine qV ?_;refine qV ?_;refine qV ?_;refine qC ((fun w hw=>(Q5 w).mono fun e w' h=>⟨h.1,by rw[h.2];exact hw⟩)) ?_;refine qV ?_;refine qV ?_;refine qV ?_;refine qV ?_;refine qV ?_;refine qV ?_;refine qV ?_;refine qV ?_;refine qV ?_;refine qC ((fun w hw=>(Q6 w hw.1).mono fun e w' h=>⟨h.1,a1t hw.1 h.2,HK w w' hw.2 h.2⟩)) ?_;refine qV ?_;refine qV ?_;refine qV ?_;refine wpQuiet_nil ?_;intro w9 hw9;have HW9:=Hd hw9;clear hw9 n0 n1 n2 n3 n4 n5 n6 g0 g1 g2 g3 ck y0 y1 y2 y3 y4 y5 y6;go_wp2;go_roundw
       case rel=>exact⟨k+1,by go_num,by omega,by rw[HST.out];rfl,(H.below HW9.out.1).sub [1] rfl (by decide),a1t HBR HW9.out.1⟩
       case measure=>simp[intOf];omega
      ·have hkn:nb=k:=by omega
       subst hkn;have hz9:G.nodes.take nb=G.nodes:=List.take_of_length_le (by have:=HL.inB.1;omega);have hz8:L.take nb=L:=List.take_of_length_le (by have:=HLL.out;omega);rw[hz9,hz8] at hsz ⊢;obtain⟨T2,hT2⟩:∃ T,a3b (a0b G.names) (a5d G) G.nodes L=T:=⟨_,rfl⟩;rw[hT2] at hsz ⊢;have HT2:=Hd hT2;clear hz9 hz8 hT2;have hs1:T2.size+(⟨#[111,117,116,115]⟩:ByteArray).size≤9223372036854775807:=by have:(⟨#[111,117,116,115]⟩:ByteArray).size=4:=rfl;omega
       obtain⟨T3,hT3⟩:∃ T,T2++b5i=T:=⟨_,rfl⟩;have HT3:=Hd hT3;have hsz3:T3.size≤(a5d G).size+42400004:=by rw[←hT3,ByteArray.size_append];show _+4≤_;omega
       clear hT3 hsz;have HC:=Hd (HL.inC.below H.base);have HCL:=Hd HL.inC.len
       go_wp2_with fail
       go_loop [95,6] (fun iv sv=>∃ k:Nat,k≤nc∧iv=.int .i64 k∧sv=.string (a1w T3 (G.outs.take k))) (fun iv _=>nc-(intOf iv).toNat)
       case atStart=>exact⟨0,Nat.zero_le _,rfl,by rw[←HT3.out];rfl⟩
       case round =>
        obtain⟨j,hj,rfl,rfl⟩:=hrel;have hsz:=a3n G.outs j T3 (by have:=HCL.out;omega);by_cases hlt:j<nc
        ·obtain⟨sa,x,rfl,_,hx,hcx,hfx⟩:=HC.at_ hlt;have HST:=Hd (a8s T3 hx);obtain⟨T1,hT1⟩:∃ T1,a1w T3 (G.outs.take j)=T1:=⟨_,rfl⟩;rw[hT1] at hsz HST ⊢;have hnx:=a3c x;obtain⟨D,hD⟩:∃ D,numT x=D:=⟨_,rfl⟩;have CN:=a1p (w:=wr) hfx;rw[hD] at CN hnx HST;clear hx hT1 hD hs1;have hs1:T1.size+(⟨#[32]⟩:ByteArray).size≤9223372036854775807:=by have:(⟨#[32]⟩:ByteArray).size=1:=rfl;omega
         have hs2:(T1++⟨#[32]⟩).size+D.size≤9223372036854775807:=by rw[ByteArray.size_append];have:(⟨#[32]⟩:ByteArray).size=1:=rfl;omega
         go_wp2_with fail
         refine CN.mono ?_;rintro e1 w1 ⟨rfl,rfl⟩;clear CN;go_wp2;go_round
         case rel=>exact⟨j+1,by omega,by go_num,by rw[HST.out];rfl⟩
         case measure=>simp[intOf];omega
        ·have hjn:nc=j:=by omega
         subst hjn;have hz9:G.outs.take nc=G.outs:=List.take_of_length_le (by have:=HCL.out;omega);rw[hz9] at hsz ⊢;obtain⟨T4,hT4⟩:∃ T,a1w T3 G.outs=T:=⟨_,rfl⟩;rw[hT4] at hsz ⊢;clear hs1;have hs1:T4.size+(⟨#[10]⟩:ByteArray).size≤9223372036854775807:=by have:(⟨#[10]⟩:ByteArray).size=1:=rfl;omega
         have HT4:=Hd (show a2i G L=T4++⟨#[10]⟩ by rw[a2i,HT2.out,HT3.out,hT4];rfl);clear hz9 hT4;obtain⟨T5,hT5⟩:∃ T:ByteArray,T4++⟨#[10]⟩=T:=⟨_,rfl⟩;have HT5:=Hd hT5;rw[hT5] at HT4;by_cases hbig:65536<T5.size
         ·have dbig:decide (65536<T5.size)=true:=decide_eq_true hbig;have HX:=Hd (show a5y G=(⟨#[]⟩,3) from b6t (by rw[HE.out]) (by rw[HE.out];show 65536<(a2i G L).size;rw[HT4.out];exact hbig));go_wp2;go_ret2;exact⟨by rw[HX.out];rfl,H.base⟩
         ·have dbig:decide (65536<T5.size)=false:=decide_eq_false hbig;have HX:=Hd (show a5y G=(T5,0) by rw[a8u (by rw[HE.out]) (by rw[HE.out];show ¬ 65536<(a2i G L).size;rw[HT4.out];exact hbig),HE.out];show(a2i G L,(0:Int))=_;rw[HT4.out]);go_wp2;go_ret2;exact⟨by rw[HX.out];rfl,H.base⟩
 ·have dz:(e0 != 0)=true:=by simpa using hz
  have HX:=Hd (show a5y G=(⟨#[]⟩,e0) by rw[b4t (by rw[HE.out];exact hz),HE.out]);go_wp2;go_ret2;exact⟨by rw[HX.out];rfl,H.base⟩
def ownP (s:List Int):Int × List Int:=if Sh.right s=true then(0,s) else(13,[])
def a5z (s a:List Int):Int × List Int:=if Sh.right s=true then(if a.length=1∧0≤a.getD 0 0∧a.getD 0 0<s.length then(0,s) else(1,[])) else(13,[])
open Classical in
noncomputable def a3y (s a:List Int):Int × List Int:=if TuOk s a then(0,a2x s a) else(1,[])
open Classical in
noncomputable def a2w (s o a:List Int):Int × List Int:=if Sh.right o=true then(if SpOk s o a then(0,o) else(1,[])) else(13,[])
def a3x (s a:List Int):Int × List Int:=if a.length=2*s.length∧a3j s (a.take s.length) (a.drop s.length)=true then(0,a.drop s.length) else(1,[])
open Classical in
noncomputable def a3l (s a:List Int):Int × List Int:=if a.length=2*s.length∧b2j s (a.take s.length) (a.drop s.length) then ownP (padS s (a.take s.length) (a.drop s.length)) else(1,[])
def totL (ax:Nat) (L:List (List Int)):Int:=L.foldl (fun a s=>a+s.getD ax 0) 0
def b2x (ax:Nat) (L:List (List Int)):Prop:=∀ s∈L,b5c (L.getD 0 []) ax s
open Classical in
noncomputable def a1z (L:List (List Int)) (a:List Int):Int × List Int :=
 if a.length=1∧0≤a.getD 0 0∧a.getD 0 0<(L.getD 0 []).length then(if b2x (a.getD 0 0).toNat L then ownP ((L.getD 0 []).set (a.getD 0 0).toNat (totL (a.getD 0 0).toNat L)) else(13,[])) else(1,[])
open Classical in
noncomputable def a3s (how:Int) (s a:List Int):Int × List Int:=if a4c how=true∧a6x a s.length then ownP (rest a s) else(1,[])
def b2k (s t a:List Int):Int × List Int:=if a.length=1 then dsR s t (a.getD 0 0) else(1,[])
def a1h (how:Int) (s a:List Int):Int × List Int:=if a.length=3∧a4c how=true∧b1n s (a.getD 0 0)=true∧b0w (a.getD 1 0) (a.getD 2 0)=true then(0,winS s (a.getD 0 0).toNat (a.getD 1 0) (a.getD 2 0)) else(1,[])
open Classical in
noncomputable def a2r (L:List (List Int)):Int × List Int:=if ∀ s∈L,s=L.getD 0 [] then(0,L.getD 0 []) else(13,[])
def a2y (w:World) (r:Int × List Int) (e:Ending) (w' : World):Prop :=
 (∃ v m,e=.returned (.tuple #[v,.int .i64 r.1])∧OwnS w' w.heap.size 3 v m r.2)∧Below w.heap.size w w'
theorem a0g {r:Int × List Int}{e:Int}(h:r=(e,[]))(hb:Below w.heap.size w w'):a2y w r (.returned (.tuple #[.slice none 0 0,.int .i64 e])) w':=by
 subst h;exact⟨⟨_,0,rfl,OwnS.nil_ _ _ _⟩,hb⟩
theorem a2p {r:Int × List Int}{m:Nat}(h:r=(0,xs))(ho:OwnS w' w.heap.size 3 v m xs)(hb:Below w.heap.size w w'):a2y w r (.returned (.tuple #[v,.int .i64 0])) w':=by
 subst h;exact⟨⟨_,m,rfl,ho⟩,hb⟩
theorem a4r (h:Ints w A n xs)(hn:n≤17592186044000):
  Calls prog 125 #[.slice A n c] w fun e w'=>(∃ v,e=.returned v∧OwnS w' w.heap.size 3 v n xs)∧Below w.heap.size w w':=by
 have hmk:=a2f underlying23 Tryz.infoInt (n:=n) (by omega);have h1:=(Sep.nil w).noughts 3 n (by omega);have HI:=Hd h;have hnle:=h.le;clear h
 go_enter func125,ntmps125
 go_upto_region 2 with fail
 generalize hW:w.alloc (.cells (noughts n) 3)=W at *;have H:=Hd h1;have hO:=h1.own 0 rfl;have HO:=Hd hO;have HI2:=Hd (HI.below h1.base);clear h1 hmk hO hW
 go_wp2_with (with_reducible refine b2l rfl (.tmp 7) (.tmp 8) 23 23 rfl 3 underlying23 Tryz.sizeInt HO.out rfl rfl HI2.out ?_)
 intro w3 hO3 hg3;have H3:=Hd (H.change 0 (d:=.own 3 (.slice (some ⟨w.heap.size,0,none⟩) n n) n xs) rfl hg3 hO3 (fun k hk=>.inl hk));clear hO3 hg3;go_wp2;go_ret;exact⟨⟨_,rfl,H3.ownS 0 rfl⟩,H3.base⟩
def axF (x:Int) (n:Nat):Bool:=decide (0≤x)&&decide (x<n)
theorem a8l (x:Int)(w:World):
  Calls prog 126 #[.int .i64 x,.slice A n c] w fun e w'=>e=.returned (.bool (axF x n))∧w=w':=by
 by_cases h:0≤x
 ·have d:decide (0≤x)=true:=by simpa using h
  have HX:=Hd (show axF x n=decide (x<n) by rw[axF,d];rfl)
  go_enter func126,ntmps126
  go_wp2;go_ret;exact⟨a0c (by rw[HX.out]),rfl⟩
 ·have d:decide (0≤x)=false:=by simpa using h
  have HX:=Hd (show axF x n=false by rw[axF,d];rfl)
  go_enter func126,ntmps126
  go_wp2;go_ret;exact⟨a0c HX.symm,rfl⟩
theorem a9g {x:Int}:axF x n=true↔0≤x∧x<n:=by simp[axF]
open Classical in
noncomputable def c8r (a:List Int) (r:Nat):Bool:=decide (a6x a r)
theorem b4h (h:a6x a r):c8r a r=true:=by simpa [c8r] using h
theorem b2s (h:¬ a6x a r):c8r a r=false:=by simpa [c8r] using h
theorem b3h {S:Option Addr}{d:Nat}(h:Ints w A n a)(hr:r≤4):
  Calls prog 127 #[.slice A n c,.slice S r d] w fun e w'=>e=.returned (.bool (c8r a r))∧w=w':=by
 have hn:=h.len;have hle:=h.le;have H1:=Hd hn;clear hn
 go_enter func127,ntmps127
 go_wp2
 go_loop [5,10] (fun last i=>∃(k:Nat) (l:Int),k≤n∧i=.int .i64 k∧last=.int .i64 l ∧ -1≤l∧l≤4∧(∀ j,j<k→b6x a r j)∧(∀ z,0<k→a[k-1]?=some z→z=l)∧(k=0→l = -1)) (fun _ i=>n-(intOf i).toNat)
 case atStart=>exact⟨0,-1,Nat.zero_le _,rfl,rfl,by omega,by omega,fun j hj=>by omega,fun z hz=>by omega,fun _=>rfl⟩
 case round =>
  obtain⟨k,l,hk,rfl,rfl,hl1,hl2,hall,hlast,hz0⟩:=hrel;have HA:=Hd hall;clear hall;have HL:=Hd hlast;clear hlast;have HZ:=Hd hz0;clear hz0;by_cases hlt:k<n
  ·obtain⟨ad,x,rfl,hb,hx,hc,hf⟩:=h.at_ hlt;have HX:=Hd hx;clear hx
   have HLE:=Hd (show ¬ l<x→¬ a6x a r from fun hxl hR=>by
    have h1:=hR k x HX;by_cases hk0:k=0
    ·have:=HZ.out hk0;omega
    ·obtain⟨z,hz⟩:=a0e (l:=a) (k:=k-1) (by have:=H1.out;omega);have:=HL.out z (by omega) hz;have:=h1.2.2 z (by omega) hz
     omega)
   have HGE:=Hd (show ¬ x<r→¬ a6x a r from fun hxl hR=>hxl (hR k x HX).2.1);by_cases g1:x≤l
   ·have HN:=Hd (b2s (HLE (by omega)));clear HLE HGE;have d1:decide (x≤l)=true:=by simpa using g1
    go_wp2;go_ret;exact⟨a0c HN.symm,rfl⟩
   ·have d1:decide (x≤l)=false:=by simpa using g1
    by_cases g2:(r:Int)≤x
    ·have HN:=Hd (b2s (HGE (by omega)));clear HLE HGE;have d2:decide ((r:Int)≤x)=true:=by simpa using g2
     go_wp2;go_ret;exact⟨a0c HN.symm,rfl⟩
    ·clear HLE HGE;have d2:decide ((r:Int)≤x)=false:=by simpa using g2
     go_wp2;go_round
     case rel=>exact⟨k+1,x,by omega,by go_num,rfl,by omega,by omega,fun j hj=>by
      rcases Nat.lt_or_ge j k with h' | h'
      ·exact HA j h'
      ·obtain rfl:j=k:=by omega
       intro y hy;rw[HX.out] at hy;injection hy with hy;subst hy
       refine⟨?_,by omega,fun z hz1 hz2=>?_⟩
       ·omega
       ·have:=HL.out z hz1 hz2;omega,fun z _ hz=>by rw[Nat.add_sub_cancel,HX.out] at hz;injection hz with hz;exact hz.symm,fun e=>by omega⟩
     case measure=>simp[intOf];omega
  ·have HR:=Hd (b4h (show a6x a r from fun j x hx=>HA.out j (by have:=(lL hx);have:=H1.out;omega) x hx));go_wp2;go_ret;exact⟨a0c HR.symm,rfl⟩
theorem c4m (x:Int)(h:Ints w A n a):
  Calls prog 117 #[.slice A n c,.int .i64 x] w fun e w'=>(∃ k:Int,e=.returned (.int .i64 k)∧decide (0≤k)=decide (x∈a))∧w=w':=by
 have hn:=h.len;have hle:=h.le;have H1:=Hd hn;clear hn
 go_enter func117,ntmps117
 go_wp2
 go_loop [8] (fun i=>∃ k:Nat,k≤n∧i=.int .i64 k∧x∉a.take k) (fun i=>n-(intOf i).toNat)
 case atStart=>exact⟨0,Nat.zero_le _,rfl,by simp⟩
 case round =>
  obtain⟨k,hk,rfl,hall⟩:=hrel;have HA:=Hd hall;clear hall;by_cases hlt:k<n
  ·obtain⟨ad,y,rfl,hb,hy,hc,hf⟩:=h.at_ hlt;have HY:=Hd hy;clear hy;by_cases g1:x=y
   ·subst g1;have d1:(x==x)=true:=by simp
    have HM:=Hd (show x∈a from mG HY);go_wp2;go_ret;exact⟨⟨_,rfl,by simp[HM.out]⟩,rfl⟩
   ·have d1:(x==y)=false:=by simpa using g1
    have HNE:=Hd g1;clear g1;go_wp2;go_round
    case rel=>exact⟨k+1,by omega,by go_num,by rw[List.take_add_one,HY.out];simp[HA.out,HNE.out]⟩
    case measure=>simp[intOf];omega
  ·have HM:=Hd (show x∉a by have:=HA.out;rwa [List.take_of_length_le (by have:=H1.out;omega)] at this);go_wp2;go_ret;exact⟨⟨_,rfl,by simp[HM.out]⟩,rfl⟩
theorem a9x (x:Int)(h:Ints w A n a):
  Calls prog 81 #[.slice A n c,.int .i64 x] w fun e w'=>e=.returned (.bool (decide (x∈a)))∧w=w':=by
 have C1:=c4m (c:=c) x h
 go_enter func81,ntmps81
 go_wp2_with fail
 refine C1.mono ?_;rintro e1 w1 ⟨⟨k,rfl,hk⟩,rfl⟩;have HK:=Hd hk;clear hk C1;go_wp2;go_ret;exact⟨a0c HK,rfl⟩
theorem b2n {s:List Int}(h:Ints w A n s):
  Calls prog 106 #[.slice A n c] w (a2y w (ownP s)):=by
 have C1:=a5u (c:=c) h;have hl:=h.len;have HI:=Hd h;clear h
 cases hr:Sh.right s with
 | false =>
  rw[hr] at C1;have HX:=Hd (show ownP s=(13,[]) by rw[ownP,hr];rfl);clear hr
  go_enter func106,ntmps106
  go_wp2_with fail
  refine C1.mono ?_;rintro e1 w1 ⟨rfl,rfl⟩;clear C1;go_wp2;go_ret2
  exact a0g HX (Below.refl _ _)
 | true =>
  rw[hr] at C1;have hn4:=(Sh.right_iff.1 hr).1;have C2:=a4r (c:=c) HI (by omega);have HX:=Hd (show ownP s=(0,s) by rw[ownP,hr];rfl);clear hr
  go_enter func106,ntmps106
  go_wp2_with fail
  refine C1.mono ?_;rintro e1 w1 ⟨rfl,rfl⟩;clear C1
  go_wp2_with fail
  refine C2.mono ?_;rintro e2 w2 ⟨⟨v,rfl,hO⟩,hb⟩;have HO:=Hd hO;clear C2 hO;go_wp2;go_ret2;exact a2p HX HO hb
end Go.Proofs.YtajhdeddgdhccaaGreatDoor
