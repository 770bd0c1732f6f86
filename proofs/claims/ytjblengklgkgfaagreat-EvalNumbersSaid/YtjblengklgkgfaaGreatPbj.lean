import Derived.Test.YtjblengklgkgfaaGreatPbi
set_option maxRecDepth 100000
set_option maxHeartbeats 12800000
namespace Go.Proofs.YtjblengklgkgfaaGreat
open Go.RowKit Go.Proofs.Tryz
variable {A Af As:Option Addr} {G:a3n} {a f o s:List Int} {c cf cs n ns:Nat} {v:Value} {w:World}
theorem c8g (h:a2c w v G)(hs:a7y 800 G):
  Calls prog 33 #[v] w fun e w'=>(∃ A m c,e=.returned (.tuple #[.slice A m c,.int .i64 (a2f G).1])∧m≤c∧Lils w' A m (a2f G).2)∧Below w.heap.size w w':=by
 have HG:=h;obtain⟨A,na,ca,B,nb,cb,C,nc,cc,rfl,hL⟩:=h;replace HG:=Hd HG;obtain⟨hia,hib,hic,hA,hB,hC,hnm⟩:=hL;have h1:=(((Sep.nil w).old hC).old hA).allocBox w.heap.size 25 [.slice A na ca,.string G.names,.slice B nb cb,.slice C nc cc] rfl;have hal:=hA.le;have hcl:=hC.le;have HAL:=Hd hA.len;have HCL:=Hd hC.len;have HBL:=Hd hB.1;have hbl:=hB.2.1;have HB:=Hd hB;clear hA hC hB
 go_enter func33,ntmps33
 go_upto_region 1 with fail
 generalize w.alloc (.cells #[.slice A na ca,.string G.names,.slice B nb cb,.slice C nc cc] 25)=W at *;have H:=Hd h1;clear h1;have hsm:=hs;have HSM:=Hd hsm;clear hsm hs;have HNZ:=Hd hnm;obtain⟨g0,g1,g2,g3⟩:=H.cells4 0 rfl;have CS:=d0q (c:=ca) (H.oldInts 1 rfl);have CN:=d0i (w:=W) (na:Int) hnm;have HME:=Hd (d9g G)
 cases hz:b2i G.sizes with
 | false =>
  rw[hz] at CS;have HX:=Hd (b1j (G:=G) (by rw[HME.out,hz];rfl));clear hz CN
  go_wp2_with fail
  refine CS.mono ?_;rintro e2 w2 ⟨rfl,rfl⟩;clear CS g0 g1 g2 g3;go_wp2;go_ret2;rw[HX.out]
  exact⟨⟨none,0,0,rfl,Nat.le_refl _,a3t _⟩,H.base⟩
 | true =>
  rw[hz] at CS
  go_wp2_with fail
  refine CS.mono ?_;rintro e2 w2 ⟨rfl,rfl⟩;clear CS
  cases hm:a9a (a0k G.names) (na:Int) with
  | false =>
   rw[hm] at CN;have HX:=Hd (b1j (G:=G) (by rw[HME.out,HAL.out,hm,Bool.and_false]));clear hm hz
   go_wp2_with fail
   refine CN.mono ?_;rintro e2 w2 ⟨rfl,hb⟩;replace H:=Hd (H.below hb);clear CN hb g0 g1 g2 g3;go_wp2;go_ret2;rw[HX.out]
   exact⟨⟨none,0,0,rfl,Nat.le_refl _,a3t _⟩,H.base⟩
  | true =>
   rw[hm] at CN;have HM:=Hd (show a8n G=true by rw[HME.out,hz,HAL.out,hm];rfl);clear hm hz
   go_wp2_with fail
   refine CN.mono ?_;rintro e2 w2 ⟨rfl,hb⟩;replace H:=Hd (H.below hb);clear CN hb g0 g1 g2 g3;obtain⟨g0,g1,g2,g3⟩:=H.cells4 0 rfl;by_cases l1:48<nb
   ·have e1:decide (48<nb)=true:=by simpa using l1
    have HX:=Hd (a8e HM (by have:=HBL.out;have:=HCL.out;omega));go_wp2;go_ret2;rw[HX.out];exact⟨⟨none,0,0,rfl,Nat.le_refl _,a3t _⟩,H.base⟩
   have e1:decide (48<nb)=false:=by simpa using l1
   by_cases l2:48<nc
   ·have e2:decide (48<nc)=true:=by simpa using l2
    have HX:=Hd (a8e HM (by have:=HBL.out;have:=HCL.out;omega));go_wp2;go_ret2;rw[HX.out];exact⟨⟨none,0,0,rfl,Nat.le_refl _,a3t _⟩,H.base⟩
   have e2:decide (48<nc)=false:=by simpa using l2
   have hl48:=Hd (show G.nodes.length≤48∧G.outs.length≤48 by have:=HBL.out;have:=HCL.out;omega);have hnb48:nb≤48:=by omega
   have hnc48:nc≤48:=by omega
   obtain⟨nm,hnmr⟩:∃ nm,a0k G.names=nm:=⟨_,rfl⟩;have HNM:=Hd hnmr;clear hnmr
   go_upto_region 5 with fail
   clear g0 g1 g2 g3;obtain⟨g0,g1,g2,g3⟩:=H.cells4 0 rfl;have hmk:=b7p (c:=nb) (by omega);have h2:=H.madeRow 22 1 0 nb (lRow nb) (by rw[b0q,Nat.mul_one]) (Nat.zero_le _) (by omega);rw[Nat.zero_mul,List.take_zero] at h2
   go_upto_region 6 with fail
   generalize w2.alloc (.cells (lRow nb) 22)=w4 at *;generalize hgr:w2.heap.size=gr at *;replace H:=Hd h2;clear h2 hmk hgr e1 e2 l1 l2 g0 g1 g2 g3;obtain⟨g0,g1,g2,g3⟩:=H.cells4 1 rfl
   go_wp2_with fail
   clear g0 g1 g2 g3
   go_loopw [41,4] (fun iv ov wr=>∃(j:Nat) (us:List Value) (pool:List a0c) (lx:Value) (acc:List (List Int)),lx=ov∧iv=.int .i64 j∧j≤nb∧acc.length=j∧a9o us acc pool∧a0i nm acc (G.nodes.drop j)=a0i nm [] G.nodes∧Sep w wr (.row 22 1 lx j us::.box w.heap.size 25 [.slice A na ca,.string G.names,.slice B nb cb,.slice C nc cc]::.ints A na G.sizes::.ints C nc G.outs::pool)) (fun iv _ _=>nb-(intOf iv).toNat)
   case atStart=>exact⟨0,[],[],_,[],rfl,rfl,by omega,rfl,b1e,rfl,H⟩
   case round =>
    clear H;obtain⟨j,us,pool,lx,acc,rfl,rfl,hj,hacc,hP,hgo,hS⟩:=hrel;have H:=Hd hS;have HP:=Hd hP;have HGO:=Hd hgo;have HACC:=Hd hacc;clear hS hP hgo hacc;obtain⟨Al,cl,hv,hcl,hLi⟩:=a8q 0 H rfl HP HACC (by omega) 4 (fun i=>rfl);subst hv;have HLI:=Hd hLi;clear hLi;obtain⟨g0,g1,g2,g3⟩:=H.cells4 1 rfl;by_cases hlt:j<nb
    ·obtain⟨nd,hnd⟩:∃ nd,G.nodes[j]?=some nd:=gE (by have:=HBL.out;omega);obtain⟨la,S,ns,cs,D,nD,cD,E,ne,ce,hla,hlb,k0,k1,k2,k3,k4,k5,k6,hNL⟩:=HB.out.2.2 j nd hnd;subst hla;obtain⟨c0,c1,c2,c3,c4,c5,c6⟩:=old7 H hlb k0 k1 k2 k3 k4 k5 k6;have HGD:=Hd (show a0i nm acc (nd::G.nodes.drop (j+1))=a0i nm [] G.nodes by rw[←a7x hnd];exact HGO);have hns:=HSM.out j nd hnd;have HNL:=Hd hNL;clear k0 k1 k2 k3 k4 k5 k6 hNL hnd;have h3:=H.allocBox wr.heap.size 38 [.int .i64 nd.op,.slice S ns cs,.slice D nD cD,.slice E ne ce,.int .i64 nd.n,.int .i64 nd.how,.string nd.note] rfl;have hbw:=(Below.refl wr.heap.size wr).alloc (Nat.le_refl _) (.cells #[.int .i64 nd.op,.slice S ns cs,.slice D nD cD,.slice E ne ce,.int .i64 nd.n,.int .i64 nd.how,.string nd.note] 38);have hLi3:=HLI.below hbw
     go_upto_region 9 with fail
     generalize wr.alloc (.cells #[.int .i64 nd.op,.slice S ns cs,.slice D nD cD,.slice E ne ce,.int .i64 nd.n,.int .i64 nd.how,.string nd.note] 38)=w3 at *;generalize wr.heap.size=gn at *;replace H:=Hd h3;clear h3 c0 c1 c2 c3 c4 c5 c6 g0 g1 g2 g3 hbw;obtain⟨g0,g1,g2,g3⟩:=H.cells4 2 rfl;obtain⟨n0,n1,n2,n3,n4,n5,n6⟩:=H.cells7 0 rfl;have CX:=d4g (cl:=cl) HNZ (show a3k w3 (.agg #[.int .i64 nd.op,.slice S ns cs,.slice D nD cD,.slice E ne ce,.int .i64 nd.n,.int .i64 nd.how,.string nd.note]) nd from⟨S,ns,cs,D,nD,cD,E,ne,ce,rfl,HNL.below H.base⟩) hLi3 hns;rw[HNM.out] at CX;obtain⟨⟨e5,s5⟩,hR⟩:∃ r,b4t nm acc nd=r:=⟨_,rfl⟩;rw[hR] at CX;have HGX:=Hd (show a0i nm [] G.nodes=if e5=0 then a0i nm (acc++[s5]) (G.nodes.drop (j+1)) else(e5,[]) by rw[←HGD.out,c3n,hR]);clear hLi3 hR
     go_wp2_with fail
     refine CX.mono ?_;rintro e4 w5 ⟨⟨v5,m5,rfl,hO⟩,hb4⟩;clear CX n0 n1 n2 n3 n4 n5 n6 g0 g1 g2 g3;replace hO:OwnS w5 _ 3 v5 m5 s5:=hO;obtain⟨A5,c5,rfl,hmc5,_,_⟩:=hO.form;replace H:=Hd (H.addOwn hb4 hO);clear hO hb4;by_cases he:e5=0
     ·subst he;have HG2:=Hd (show a0i nm (acc++[s5]) (G.nodes.drop (j+1))=a0i nm [] G.nodes by rw[HGX.out,iP rfl])
      go_wp2_with (at_builtin;refine a2t rfl (.tmp 56) (.tmp 58) 35 rfl underlying35 H.out 2 rfl rfl _ rfl ?c1 ?_)
      case c1=>omega
      intro v9 w9 h9;have h10:=Sep.tail_ (Sep.perm h9 (l':=[_,.row 22 1 v9 (j+1) (us++[.slice A5 m5 c5]),.box w.heap.size 25 [.slice A na ca,.string G.names,.slice (some la) nb cb,.slice C nc cc],.ints A na G.sizes,.ints C nc G.outs]++([a0c.own 3 (.slice A5 m5 c5) m5 s5]++pool)) (by rw[←List.append_assoc];exact(List.perm_append_comm (l₁:=[a0c.own 3 (.slice A5 m5 c5) m5 s5]) (l₂:=[_,_,_,_,_])).append_right pool));have H10:=Hd h10;clear h9 h10;go_wp2;go_roundw
      case rel=>exact⟨j+1,us++[Value.slice A5 m5 c5],a0c.own 3 (.slice A5 m5 c5) m5 s5::pool,_,acc++[s5],rfl,by go_num,by omega,by rw[List.length_append,List.length_singleton,HACC.out],HP.more,HG2,H10⟩
      case measure=>simp[intOf];omega
     ·have dE:(e5 != 0)=true:=by simpa using he
      have HX:=Hd (a8p HM hl48 (by rw[HNM.out,HGX.out,iN he]) he);clear he;go_wp2;go_ret2;rw[HX.out];exact⟨⟨none,0,0,rfl,Nat.le_refl _,a3t _⟩,H.base⟩
    ·obtain rfl:j=nb:=by omega
     have HEND:=Hd (show a0i nm [] G.nodes=(0,acc) by rw[←HGO.out,List.drop_eq_nil_of_le (by have:=HBL.out;omega),a0i]);have HXE:=Hd (a6j HM hl48 (by rw[HNM.out];exact HEND))
     go_wp2_with fail
     clear g0 g1 g2 g3
     go_loopw [64] (fun iv wr=>∃ q:Nat,iv=.int .i64 q∧q≤nc∧(∀(i:Nat) (x:Int),G.outs[i]?=some x→i<q→0≤x∧x<j)∧Sep w wr (.row 22 1 (.slice Al j cl) j us::.box w.heap.size 25 [.slice A na ca,.string G.names,.slice B j cb,.slice C nc cc]::.ints A na G.sizes::.ints C nc G.outs::pool)) (fun iv _=>nc-(intOf iv).toNat)
     case atStart=>exact⟨0,rfl,by omega,by omega,H⟩
     case round =>
      clear H;obtain⟨q,rfl,hq,hAll,hS⟩:=hrel;have H:=Hd hS;have HA:=Hd hAll;clear hS hAll;by_cases hlq:q<nc
      ·obtain⟨sa,x,hsA,_,hx,hcx,_⟩:=(H.oldInts 3 rfl).at_ (k:=q) hlq;subst hsA;by_cases h1:x<0
       ·have d1:decide (x<0)=true:=by simpa using h1
        have HX:=Hd (HXE.trans (by rw[b6y hx (by have:=HBL.out;omega)];rfl:_=((23:Int),([]:List (List Int)))));clear hx;go_wp2;go_ret2;rw[HX.out];exact⟨⟨none,0,0,rfl,Nat.le_refl _,a3t _⟩,H.base⟩
       obtain⟨xx,rfl⟩:=eZ (by omega:0≤x);have d1:decide ((xx:Int)<0)=false:=by simp
       by_cases h2:j≤xx
       ·have d2:decide (j≤xx)=true:=by simpa using h2
        have HX:=Hd (HXE.trans (by rw[b6y hx (by have:=HBL.out;omega)];rfl:_=((23:Int),([]:List (List Int)))));clear hx;go_wp2;go_ret2;rw[HX.out];exact⟨⟨none,0,0,rfl,Nat.le_refl _,a3t _⟩,H.base⟩
       have d2:decide (j≤xx)=false:=by simpa using h2
       have HXX:=Hd hx;clear hx;go_wp2;go_roundw
       case rel=>exact⟨q+1,by go_num,by omega,fun i y hi hi2=>by
        rcases Nat.lt_or_ge i q with hij|hij
        ·exact HA i y hi hij
        ·obtain rfl:i=q:=by omega
         have h9:=HXX.out
         rw[hi] at h9;injection h9 with h9;omega,H⟩
       case measure=>simp[intOf];omega
      ·obtain rfl:q=nc:=by omega
       have HX:=Hd (HXE.trans (iP (b1i fun i x hi=>by rw[HBL.out];exact HA i x hi (by have:=HCL.out;have:=(lL hi);omega))));obtain⟨Al9,cl9,hv,hcl2,hLi⟩:=a8q 0 H rfl HP HACC (by omega) 4 (fun i=>rfl);injection hv with hv1 _ hv3
       subst hv1;subst hv3;have HLI:=Hd hLi;clear hLi;go_wp2;go_ret2;rw[HX.out];exact⟨⟨_,_,_,rfl,hcl2,HLI⟩,H.base⟩
theorem c7s (h:a2c w v G):
  Calls prog 35 #[v] w fun e w'=>(∃ v m,e=.returned v∧OwnS w' w.heap.size 3 v m (parF 0 G.nodes))∧Below w.heap.size w w':=by
 have HG:=h;obtain⟨A,na,ca,B,nb,cb,C,nc,cc,rfl,hL⟩:=h;replace HG:=Hd HG;obtain⟨hia,hib,hic,hA,hB,hC,hnm⟩:=hL;have h1:=(((Sep.nil w).old hC).old hA).allocBox w.heap.size 25 [.slice A na ca,.string G.names,.slice B nb cb,.slice C nc cc] rfl;have hal:=hA.le;have hcl:=hC.le;have HAL:=Hd hA.len;have HCL:=Hd hC.len;have HBL:=Hd hB.1;have hbl:=hB.2.1;have HB:=Hd hB;clear hA hC hB
 go_enter func35,ntmps35
 go_upto_region 1 with fail
 generalize w.alloc (.cells #[.slice A na ca,.string G.names,.slice B nb cb,.slice C nc cc] 25)=W at *;have H:=Hd h1;clear h1;have HN:=Hd (H.addNil 3);replace H:=HN;clear HN;obtain⟨g0,g1,g2,g3⟩:=H.cells4 1 rfl
 go_wp2_with fail
 clear g0 g1 g2 g3
 go_loopw [9,3] (fun iv ov wr=>∃(j:Nat) (vo:Value) (acc:List Int),vo=ov∧iv=.int .i64 j∧j≤nb∧acc.length≤j∧acc++parF j (G.nodes.drop j)=parF 0 G.nodes∧Sep w wr [.own 3 vo acc.length acc,.box w.heap.size 25 [.slice A na ca,.string G.names,.slice B nb cb,.slice C nc cc],.ints A na G.sizes,.ints C nc G.outs]) (fun iv _ _=>nb-(intOf iv).toNat)
 case atStart=>exact⟨0,_,[],rfl,rfl,by omega,Nat.le_refl _,by rw[List.nil_append];rfl,H⟩
 case round =>
  clear H;obtain⟨j,vo,acc,rfl,rfl,hj,hal2,hpar,hS⟩:=hrel;have H:=Hd hS;have HP:=Hd hpar;clear hS hpar;obtain⟨g0,g1,g2,g3⟩:=H.cells4 1 rfl;by_cases hlt:j<nb
  ·obtain⟨nd,hnd⟩:∃ nd,G.nodes[j]?=some nd:=gE (by have:=HBL.out;omega);obtain⟨la,S,ns,cs,D,nD,cD,E,ne,ce,hla,hlb,k0,k1,k2,k3,k4,k5,k6,hNL⟩:=HB.out.2.2 j nd hnd;subst hla;obtain⟨c0,c1,c2,c3,c4,c5,c6⟩:=old7 H hlb k0 k1 k2 k3 k4 k5 k6;have HPD:=Hd (show acc++parF j (nd::G.nodes.drop (j+1))=parF 0 G.nodes by rw[←a7x hnd];exact HP);clear k0 k1 k2 k3 k4 k5 k6 hNL hnd;have h3:=H.allocBox wr.heap.size 38 [.int .i64 nd.op,.slice S ns cs,.slice D nD cD,.slice E ne ce,.int .i64 nd.n,.int .i64 nd.how,.string nd.note] rfl
   go_upto_region 5 with fail
   generalize wr.alloc (.cells #[.int .i64 nd.op,.slice S ns cs,.slice D nD cD,.slice E ne ce,.int .i64 nd.n,.int .i64 nd.how,.string nd.note] 38)=w3 at *;replace H:=Hd h3;clear h3 c0 c1 c2 c3 c4 c5 c6 g0 g1 g2 g3;obtain⟨n0,n1,n2,n3,n4,n5,n6⟩:=H.cells7 0 rfl;by_cases ho:nd.op=1
   ·have dop:(nd.op==1)=true:=by simpa using ho
    have HPE:=Hd (show(acc++[(j:Int)])++parF (j+1) (G.nodes.drop (j+1))=parF 0 G.nodes by have h5:=HPD.out;rw[parF,iP ho] at h5;rw[List.append_assoc];exact h5);clear ho
    go_wp2_with (at_builtin;refine a0x rfl (.tmp 17) (.tmp 19) 22 3 rfl underlying22 Tryz.infoInt H.out 1 rfl rfl (j:Int) ⟨by omega,by omega⟩ _ rfl ?c1 ?_)
    case c1=>omega
    intro v' w' h';have H8:=Hd (Sep.tail_ h');clear h' n0 n1 n2 n3 n4 n5 n6;go_wp2;go_roundw
    case rel=>exact⟨j+1,_,acc++[(j:Int)],rfl,by go_num,by omega,by rw[List.length_append,List.length_singleton];omega,HPE,by rw[List.length_append,List.length_singleton];exact H8⟩
    case measure=>simp[intOf];omega
   ·have dop:(nd.op==1)=false:=by simpa using ho
    have HPE:=Hd (show acc++parF (j+1) (G.nodes.drop (j+1))=parF 0 G.nodes by have h5:=HPD.out;rw[parF,iN ho] at h5;exact h5);clear ho;replace H:=Hd H.tail_;go_wp2;go_roundw
    case rel=>exact⟨j+1,_,acc,rfl,by go_num,by omega,by omega,HPE,H⟩
    case measure=>simp[intOf];omega
  ·obtain rfl:j=nb:=by omega
   have HE:=Hd (show parF 0 G.nodes=acc by have h5:=HP.out;rw[List.drop_eq_nil_of_le (by have:=HBL.out;omega)] at h5;rw[←h5,parF,List.append_nil]);go_wp2;go_ret;rw[HE.out];exact⟨⟨_,_,rfl,H.ownS 0 rfl⟩,H.base⟩
def Asks (e:Ending) (p:Prop):Prop:=∃ b,e=.returned (.bool b)∧(b=true↔p)
theorem b1v {p:Prop}(h:p):Asks (.returned (.bool true)) p:=⟨true,rfl,by simp;exact h⟩
theorem a4v {p:Prop}(h:¬ p):Asks (.returned (.bool false)) p:=⟨false,rfl,by simp;exact h⟩
def d9w (a:List Int) (r k:Nat):Prop:=∀ x,a[k]?=some x→0≤x∧x<r∧∀ z,0<k→a[k-1]?=some z→z<x
def Rise (a:List Int) (r:Nat):Prop:=∀ k,d9w a r k
theorem d1h (r:Nat)(h:Ints w A n a)(hr:r≤4):
  Calls prog 111 #[.slice A n c,.int .i64 r] w fun e w'=>Asks e (Rise a r)∧w=w':=by
 have hn:=h.len;have hle:=h.le;have H1:=Hd hn;clear hn
 go_enter func111,ntmps111
 go_wp2
 go_loop [5,10] (fun last i=>∃(k:Nat) (l:Int),k≤n∧i=.int .i64 k∧last=.int .i64 l ∧ -1≤l∧l≤4∧(∀ j,j<k→d9w a r j)∧(∀ z,0<k→a[k-1]?=some z→z=l)∧(k=0→l = -1)) (fun _ i=>n-(intOf i).toNat)
 case atStart=>exact⟨0,-1,Nat.zero_le _,rfl,rfl,by omega,by omega,fun j hj=>by omega,fun z hz=>by omega,fun _=>rfl⟩
 case round =>
  obtain⟨k,l,hk,rfl,rfl,hl1,hl2,hall,hlast,hz0⟩:=hrel;have HA:=Hd hall;clear hall;have HL:=Hd hlast;clear hlast;have HZ:=Hd hz0;clear hz0;by_cases hlt:k<n
  ·obtain⟨ad,x,rfl,hb,hx,hc,hf⟩:=h.at_ hlt;have HX:=Hd hx;clear hx
   have HLE:=Hd (show ¬ l<x→¬ Rise a r from fun hxl hR=>by
    have h1:=hR k x HX;by_cases hk0:k=0
    ·have:=HZ.out hk0;omega
    ·obtain⟨z,hz⟩:=a0f (l:=a) (k:=k-1) (by have:=H1.out;omega);have:=HL.out z (by omega) hz;have:=h1.2.2 z (by omega) hz
     omega)
   have HGE:=Hd (show ¬ x<r→¬ Rise a r from fun hxl hR=>hxl (hR k x HX).2.1);by_cases g1:x≤l
   ·have HN:=Hd (HLE (by omega));clear HLE HGE;go_wp2;go_ret;exact⟨a4v HN,rfl⟩
   ·by_cases g2:(r:Int)≤x
    ·have HN:=Hd (HGE (by omega));clear HLE HGE;go_wp2;go_ret;exact⟨a4v HN,rfl⟩
    ·clear HLE HGE;go_wp2;go_round
     case rel=>exact⟨k+1,x,by omega,by go_num,rfl,by omega,by omega,fun j hj=>by
      rcases Nat.lt_or_ge j k with h' | h'
      ·exact HA j h'
      ·obtain rfl:j=k:=by omega
       intro y hy;rw[HX.out] at hy;injection hy with hy;subst hy
       refine⟨?_,by omega,fun z hz1 hz2=>?_⟩
       ·omega
       ·have:=HL.out z hz1 hz2;omega,fun z _ hz=>by rw[Nat.add_sub_cancel,HX.out] at hz;injection hz with hz;exact hz.symm,fun e=>by omega⟩
     case measure=>simp[intOf];omega
  ·have HR:=Hd (show Rise a r from fun j x hx=>HA.out j (by have:=(lL hx);have:=H1.out;omega) x hx);go_wp2;go_ret;exact⟨b1v HR,rfl⟩
def d9r (s o a:List Int) (k:Nat):Prop:=∀ x y,a[k]?=some x→s[k]?=some y→o[x.toNat]?=some y
def Long (s o a:List Int):Prop:=a.length=s.length∧∀ k,d9r s o a k
theorem d3g:SpOk s o a↔Rise a o.length∧Long s o a:=by
 constructor
 ·intro h;refine⟨fun k x hx=>?_,h.1,fun k x y hx hy=>(h.2 k x y hx hy).2.2.2⟩;obtain⟨y,hy⟩:=a0f (l:=s) (k:=k) (by rw[←h.1];exact(lL hx));have:=h.2 k x y hx hy;exact⟨this.1,this.2.1,this.2.2.1⟩
 ·rintro⟨h,hl,g⟩;refine⟨hl,fun k x y hx hy=>?_⟩;have:=h k x hx;exact⟨this.1,this.2.1,this.2.2,g k x y hx hy⟩
theorem d1s {Ao Aa:Option Addr}{no co na ca:Nat}(hS:Ints w As ns s)(hO:Ints w Ao no o)(hA:Ints w Aa na a)(hr:Rise a o.length):
  Calls prog 112 #[.slice As ns cs,.slice Ao no co,.slice Aa na ca] w fun e w'=>Asks e (Long s o a)∧∃ q,w'=w.drewN q:=by
 have hles:=hS.le;have hleo:=hO.le;have hlea:=hA.le;have HLS:=Hd hS.len;have HLO:=Hd hO.len;have HLA:=Hd hA.len;have HR:=Hd hr;clear hr;by_cases hnm:na=ns
 ·subst hnm
  go_enter func112,ntmps112
  go_wp2
  go_loopw [16] (fun i wr=>∃ k:Nat,k≤na∧i=.int .i64 k∧(∀ j,j<k→d9r s o a j)∧∃ q,wr=w.drewN q) (fun i _=>na-(intOf i).toNat)
  case atStart=>exact⟨0,Nat.zero_le _,rfl,fun j hj=>by omega,0,rfl⟩
  case round =>
   obtain⟨k,hk,rfl,hall,q,rfl⟩:=hrel;have HALL:=Hd hall;clear hall;by_cases hlt:k<na
   ·obtain⟨ad,x,rfl,hb,hx,hc,hf⟩:=hA.at_ hlt;obtain⟨sd,y,rfl,hbs,hy,hcs,hfs⟩:=hS.at_ hlt;have hxr:=HR.out k x hx;obtain⟨x,rfl⟩:=eZ hxr.1;have hxo:x<no:=by have:=HLO.out;omega
    obtain⟨od,z,rfl,hbo,hz,hco,hfo⟩:=hO.at_ hxo;have HE:=Hd (⟨hx,hy,hz⟩:_∧_∧_);clear hx hy hz hxr;by_cases hzy:z=y
    ·subst hzy
     go_wp2_with fail
     go_quiet (fail)
     go_wp2;go_roundw
     case rel=>exact⟨k+1,by omega,by go_num,fun j hj=>by
      rcases Nat.lt_or_ge j k with h' | h'
      ·exact HALL j h'
      ·obtain rfl:j=k:=by omega
       intro u v hu hv;rw[HE.out.1] at hu;rw[HE.out.2.1] at hv;injection hu with hu;injection hv with hv;subst hu;subst hv
       exact HE.out.2.2,_,rfl⟩
     case measure=>simp[intOf];omega
    ·have HN:=Hd (show ¬ Long s o a from fun hl=>by
      have:=hl.2 k x y HE.out.1 HE.out.2.1;rw[show((x:Nat):Int).toNat=x from rfl,HE.out.2.2] at this
      injection this with this;exact hzy this)
     have hb:(z != y)=true:=by simpa using hzy
     go_wp2_with fail
     go_quiet (fail)
     go_wp2;go_ret;exact⟨a4v HN,_,World.drewN_drewN _ _ _⟩
   ·have HL:=Hd (show Long s o a from⟨by have:=HLA.out;have:=HLS.out;omega,fun j x y hx hy=>HALL.out j (by have:=(lL hx);have:=HLA.out;omega) x y hx hy⟩);go_wp2;go_ret;exact⟨b1v HL,_,rfl⟩
 ·have HN:=Hd (show ¬ Long s o a from fun hl=>by have:=hl.1;have:=HLA.out;have:=HLS.out;omega);have hb:((na:Int) != (ns:Int))=true:=by simp;omega
  go_enter func112,ntmps112
  go_wp2;go_ret;exact⟨a4v HN,0,rfl⟩
theorem c5w {Az:Option Addr}{nf nz cz:Nat}{z:List Int}(hF:Ints w Af nf f)(hZ:Ints w Az nz z)(hS:Ints w As ns s)(hd:∀ x∈s,0≤x∧x≤32):
  Calls prog 113 #[.slice Af nf cf,.slice Az nz cz,.slice As ns cs] w fun e w'=>e=.returned (.bool (a3w s f z))∧∃ q,w'=w.drewN q:=by
 have hles:=hS.le;have hlef:=hF.le;have hlez:=hZ.le;have HLS:=Hd hS.len;have HLF:=Hd hF.len;have HLZ:=Hd hZ.len;have HD:=Hd hd;clear hd;by_cases hlen:nf=ns∧nz=ns
 ·obtain⟨rfl,rfl⟩:=hlen
  go_enter func113,ntmps113
  go_wp2
  go_loopw [23] (fun i wr=>∃ k:Nat,k≤nz∧i=.int .i64 k∧(∀(j:Nat) (x b y:Int),j<k→s[j]?=some x→f[j]?=some b→z[j]?=some y→0≤b∧0≤y∧b≤x∧y≤x-b)∧∃ q,wr=w.drewN q) (fun i _=>nz-(intOf i).toNat)
  case atStart=>exact⟨0,Nat.zero_le _,rfl,fun j x b y hj=>by omega,0,rfl⟩
  case round =>
   obtain⟨k,hk,rfl,hall,q,rfl⟩:=hrel;have HALL:=Hd hall;clear hall;by_cases hlt:k<nz
   ·obtain⟨sd,x,rfl,hbs,hx,hcs,hfs⟩:=hS.at_ hlt;obtain⟨fd,b,rfl,hbf,hb,hcf,hff⟩:=hF.at_ hlt;obtain⟨zd,y,rfl,hbz,hy,hcz,hfz⟩:=hZ.at_ hlt;have hxd:=HD.out x (mG hx);obtain⟨hx0,hx1⟩:=hxd;obtain⟨hff1,hff2⟩:=hff;obtain⟨hfz1,hfz2⟩:=hfz;have HE:=Hd (⟨hx,hb,hy⟩:_∧_∧_);clear hx hb hy hfs
    have HBAD:=Hd (show ¬(0≤b∧0≤y∧b≤x∧y≤x-b)→a3w s f z=false from fun hbad=>by
     cases hc:a3w s f z with
     | false=>rfl
     | true=>exact absurd (b1n hc HE.out.1 HE.out.2.1 HE.out.2.2) hbad)
    by_cases g1:b<0
    ·have d1:decide (b<0)=true:=by simpa using g1
     have HX:=Hd (HBAD (by omega));clear HBAD
     go_wp2_with fail
     go_quiet (fail)
     go_wp2;go_ret;exact⟨a0b HX.symm,_,World.drewN_drewN _ _ _⟩
    have d1:decide (b<0)=false:=by simpa using g1
    by_cases g2:y<0
    ·have d2:decide (y<0)=true:=by simpa using g2
     have HX:=Hd (HBAD (by omega));clear HBAD
     go_wp2_with fail
     go_quiet (fail)
     go_wp2;go_ret;exact⟨a0b HX.symm,_,World.drewN_drewN _ _ _⟩
    have d2:decide (y<0)=false:=by simpa using g2
    have hw:IntKind.i64.wrap (x-b)=x-b:=IntWalk.i64_in _ ⟨by omega,by omega⟩;by_cases g3:x-b<y
    ·have d3:decide (x-b<y)=true:=by simpa using g3
     have HX:=Hd (HBAD (by omega));clear HBAD
     go_wp2_with fail
     go_quiet (fail)
     go_wp2;go_ret;exact⟨a0b HX.symm,_,World.drewN_drewN _ _ _⟩
    have d3:decide (x-b<y)=false:=by simpa using g3
    clear HBAD
    go_wp2_with fail
    go_quiet (fail)
    go_wp2;go_roundw
    case rel=>exact⟨k+1,by omega,by go_num,fun j u v t hj hu hv ht=>by
     rcases Nat.lt_or_ge j k with h' | h'
     ·exact HALL j u v t h' hu hv ht
     ·obtain rfl:j=k:=by omega
      rw[HE.out.1] at hu;rw[HE.out.2.1] at hv;rw[HE.out.2.2] at ht;injection hu with hu;injection hv with hv;injection ht with ht
      omega,_,rfl⟩
    case measure=>simp[intOf];omega
   ·have HX:=Hd (show a3w s f z=true from b4e (by have:=HLS.out;have:=HLF.out;omega) (by have:=HLS.out;have:=HLZ.out;omega) fun j x b y hx hb hy=>HALL.out j x b y (by have:=(lL hx);have:=HLS.out;omega) hx hb hy);go_wp2;go_ret;exact⟨a0b HX.symm,_,rfl⟩
 ·have HX:=Hd (show a3w s f z=false from by
   cases hc:a3w s f z with
   | false=>rfl
   | true=>exact absurd (a8o hc) (by have:=HLS.out;have:=HLF.out;have:=HLZ.out;omega))
  have hg:((nf:Int) != (ns:Int))=true∨(((nf:Int) != (ns:Int))=false∧((nz:Int) != (ns:Int))=true):=by simp;omega
  clear hlen;rcases hg with hg|⟨hg,hg2⟩
  all_goals (
   go_enter func113,ntmps113
   go_wp2;go_ret
   exact⟨a0b HX.symm,0,rfl⟩)
def b5m (r:Nat) (l:List Int):Prop:=l.length=r∧Near l
theorem c6v {lo hi:List Int}:b3c s lo hi↔b5m s.length lo∧b5m s.length hi:=by
 constructor
 ·intro h;refine⟨⟨h.1,fun x hx=>?_⟩,h.2.1,fun y hy=>?_⟩
  ·obtain⟨k,hk⟩:=List.getElem?_of_mem hx;obtain⟨y,hy⟩:=a0f (l:=hi) (k:=k) (by have:=(lL hk);have:=h.1;have:=h.2.1;omega);have:=h.2.2 k x y hk hy;omega
  ·obtain⟨k,hk⟩:=List.getElem?_of_mem hy;obtain⟨x,hx⟩:=a0f (l:=lo) (k:=k) (by have:=(lL hk);have:=h.1;have:=h.2.1;omega);have:=h.2.2 k x y hx hk;omega
 ·rintro⟨⟨h1,h2⟩,h3,h4⟩;refine⟨h1,h3,fun k x y hx hy=>?_⟩;have:=h2 x (mG hx);have:=h4 y (mG hy);omega
theorem b9m {l:List Int}(r:Nat)(h:Ints w A n l)(hr:r≤4):
  Calls prog 114 #[.slice A n c,.int .i64 r] w fun e w'=>Asks e (b5m r l)∧w=w':=by
 have hle:=h.le;have H1:=Hd h.len;by_cases hnr:n=r
 ·subst hnr
  go_enter func114,ntmps114
  go_wp2
  go_loop [13] (fun i=>∃ k:Nat,k≤n∧i=.int .i64 k∧(∀(j:Nat) (x:Int),j<k→l[j]?=some x→0≤x∧x≤32)) (fun i=>n-(intOf i).toNat)
  case atStart=>exact⟨0,Nat.zero_le _,rfl,fun j x hj=>by omega⟩
  case round =>
   obtain⟨k,hk,rfl,hall⟩:=hrel;have HA:=Hd hall;clear hall;by_cases hlt:k<n
   ·obtain⟨ad,x,rfl,hb,hx,hc,hf⟩:=h.at_ hlt;have HX:=Hd hx;clear hx;have HBAD:=Hd (show ¬(0≤x∧x≤32)→¬ b5m n l from fun hbad hs=>hbad (hs.2 x (mG HX)));by_cases g1:x<0
    ·have HN:=Hd (HBAD (by omega));clear HBAD;go_wp2;go_ret;exact⟨a4v HN,rfl⟩
    ·by_cases g2:32<x
     ·have HN:=Hd (HBAD (by omega));clear HBAD;go_wp2;go_ret;exact⟨a4v HN,rfl⟩
     ·clear HBAD;go_wp2;go_round
      case rel=>exact⟨k+1,by omega,by go_num,fun j u hj hu=>by
       rcases Nat.lt_or_ge j k with h' | h'
       ·exact HA j u h' hu
       ·obtain rfl:j=k:=by omega
        rw[HX.out] at hu;injection hu with hu;omega⟩
      case measure=>simp[intOf];omega
   ·have HR:=Hd (show b5m n l from⟨H1,fun x hx=>by
     obtain⟨j,hj⟩:=List.getElem?_of_mem hx
     exact HA j x (by have:=(lL hj);have:=H1.out;omega) hj⟩)
    go_wp2;go_ret;exact⟨b1v HR,rfl⟩
 ·have HN:=Hd (show ¬ b5m r l from fun hs=>by have:=hs.1;have:=H1.out;omega);have hb:((n:Int) != (r:Int))=true:=by simp;omega
  go_enter func114,ntmps114
  go_wp2;go_ret;exact⟨a4v HN,rfl⟩
def e0w (ax:Int) (a b:List Int) (k:Nat):Prop:=∀ x y,(k:Int)≠ax→a[k]?=some x→b[k]?=some y→x=y
def But (ax:Int) (a b:List Int):Prop:=a.length=b.length∧∀ k,e0w ax a b k
theorem c7v {B:Option Addr}{m d:Nat}{b:List Int}(ax:Int)(hA:Ints w A n a)(hB:Ints w B m b):
  Calls prog 116 #[.int .i64 ax,.slice A n c,.slice B m d] w fun e w'=>Asks e (But ax a b)∧w=w':=by
 have hle:=hA.le;have hlb:=hB.le;have HLA:=Hd hA.len;have HLB:=Hd hB.len;by_cases hnm:n=m
 ·subst hnm
  go_enter func116,ntmps116
  go_wp2
  go_loop [16] (fun i=>∃ k:Nat,k≤n∧i=.int .i64 k∧(∀ j,j<k→e0w ax a b j)) (fun i=>n-(intOf i).toNat)
  case atStart=>exact⟨0,Nat.zero_le _,rfl,fun j hj=>by omega⟩
  case round =>
   obtain⟨k,hk,rfl,hall⟩:=hrel;have HALL:=Hd hall;clear hall;by_cases hlt:k<n
   ·obtain⟨ad,x,rfl,hba,hx,hca,hfa⟩:=hA.at_ hlt;obtain⟨bd,y,rfl,hbb,hy,hcb,hfb⟩:=hB.at_ hlt;have HE:=Hd (⟨hx,hy⟩:_∧_);clear hx hy
    have HNEXT:=Hd (show((k:Int)≠ax→x=y)→∀ j,j<k+1→e0w ax a b j from fun hg j hj=>by
     rcases Nat.lt_or_ge j k with h' | h'
     ·exact HALL j h'
     ·obtain rfl:j=k:=by omega
      intro u v hne hu hv;rw[HE.out.1] at hu;rw[HE.out.2] at hv;injection hu with hu;injection hv with hv
      rw[←hu,←hv];exact hg hne)
    by_cases g1:(k:Int)=ax
    ·have d1:((k:Int) != ax)=false:=by simp[g1]
     have HG:=Hd (HNEXT fun hne=>absurd g1 hne);clear HNEXT g1;go_wp2;go_round
     case rel=>exact⟨k+1,by omega,by go_num,HG⟩
     case measure=>simp[intOf];omega
    ·have d1:((k:Int) != ax)=true:=by simpa using g1
     by_cases g2:x=y
     ·have d2:(x != y)=false:=by simp[g2]
      have HG:=Hd (HNEXT fun _=>g2);clear HNEXT g1 g2;go_wp2;go_round
      case rel=>exact⟨k+1,by omega,by go_num,HG⟩
      case measure=>simp[intOf];omega
     ·have d2:(x != y)=true:=by simpa using g2
      have HN:=Hd (show ¬ But ax a b from fun hb=>g2 (hb.2 k x y g1 HE.out.1 HE.out.2));clear HNEXT g1 g2;go_wp2;go_ret;exact⟨a4v HN,rfl⟩
   ·have HR:=Hd (show But ax a b from⟨by have:=HLA.out;have:=HLB.out;omega,fun j x y hne hx hy=>HALL.out j (by have:=(lL hx);have:=HLA.out;omega) x y hne hx hy⟩);go_wp2;go_ret;exact⟨b1v HR,rfl⟩
 ·have HN:=Hd (show ¬ But ax a b from fun hb=>by have:=hb.1;have:=HLA.out;have:=HLB.out;omega);have hb:((n:Int) != (m:Int))=true:=by simp;omega
  go_enter func116,ntmps116
  go_wp2;go_ret;exact⟨a4v HN,rfl⟩
theorem a6q {xs:List Int}(h:Ints w A n xs)(hr:Sh.right xs=true):
  Calls prog 106 #[.slice A n c] w fun e w'=>a6v w 3 (Sh.strides xs) e w':=by
 have:=c6l (c:=c) h;rwa [iP hr] at this
theorem c9g {At:Option Addr}{ct:Nat}{st:List Int}(hS:Ints w As n s)(hF:Ints w Af n f)(hT:Ints w At n st)(hr:Sh.right s=true)(hf:Near f)(hst:d2w st):
  Calls prog 146 #[.slice As n cs,.slice Af n cf,.slice At n ct] w fun e w'=>a6v w 3 (b8v s f st) e w':=by
 have hn4:n≤4:=by have:=(Sh.right_iff.1 hr).1;have:=hS.len;omega
 obtain⟨hsz0,hsz1⟩:=Sh.size_bd s;obtain⟨N,hN⟩:=eZ hsz0;have C1:=a7b (c:=cs) hS;rw[hN] at C1;have hN4:N≤4096:=by omega
 have HN:=Hd hN;clear hN hsz0 hsz1;have hm:=a0t underlying22 Tryz.infoInt (n:=N) (by omega);have HLS:=Hd hS.len;have HLF:=Hd hF.len;have HLT:=Hd hT.len;have HR:=Hd hr;have HNF:=Hd hf;have HST:=Hd hst;have h2:=((((Sep.nil w).old hT).old hF).old hS).noughts 3 N (by omega);clear hr hf hst hS hF hT
 go_enter func146,ntmps146
 go_upto_region 2 with (go_at_call 89;refine C1.mono ?_;rintro e w' ⟨rfl,rfl⟩)
 generalize w.alloc (.cells (noughts N) 3)=w3 at *;have H:=Hd h2;clear h2 hm C1
 go_wp2_with fail
 refine(a6q (H.oldInts 1 rfl) HR).mono ?_;rintro e4 w4 ⟨⟨v4,n4,rfl,hO⟩,hb4⟩;obtain⟨A4,c4,rfl,hc4,_,_⟩:=hO.form;have hn:n4=n:=by have:=hO.len;rw[Sh.strides_length] at this;have:=HLS.out;omega
 subst hn;replace H:=Hd (H.addOwn hb4 hO);clear hO hb4 hc4;obtain⟨T,hT⟩:∃ T,b8v s f st=T:=⟨_,rfl⟩;have HTL:=Hd (show T.length=N by rw[←hT,b8v,a2y];have:=HN.out;omega);have HAT:=Hd (show ∀ i:Nat,i<N→T[i]?=some (b0r s f st i) from fun i hi=>by rw[←hT,b8v];exact a7l (by have:=HN.out;omega));have HTQ:=Hd hT;clear hT
 go_wp2_with fail
 go_loopw [19] (fun kv wr=>∃ i:Nat,kv=.int .i64 i∧i≤N∧Sep w wr [.own 3 (.slice A4 n4 c4) n4 (Sh.strides s),.own 3 (.slice (some ⟨w.heap.size,0,none⟩) N N) N (mix T (List.replicate N 0) i),.ints As n4 s,.ints Af n4 f,.ints At n4 st]) (fun kv _=>N - (intOf kv).toNat)
 case atStart=>exact⟨0,rfl,by omega,by rw[a2p];exact H⟩
 case round =>
  clear H;obtain⟨i,rfl,hi,hS⟩:=hrel;have H:=Hd hS;clear hS;by_cases hli:i<N
  ·have HIZ:=Hd (show(i:Int)<Sh.size s by have:=HN.out;omega);have HM:=Hd (a4o (c:=0) HTL hli);have HPO:=Hd (Sh.size_pos (by omega:(0:Int)≤i) HIZ);have hpo:=a1o HIZ;obtain⟨P,hP⟩:∃ P,addP (Sh.placeOf s i) f=P:=⟨_,rfl⟩;have HPL:=Hd (show P.length=n4 by rw[←hP,a5g (by rw[hpo.2.1];have:=HLF.out;have:=HLS.out;omega),hpo.2.1];exact HLS);have HPA:=Hd (show ∀(k:Nat) (x y:Int),s[k]?=some x→f[k]?=some y→P[k]?=some (i / Sh.pd (s.drop (k+1)) % x+y) from fun k x y hx hy=>by rw[←hP,hpo.1];exact b2p (Sh.place_at hx) hy);have HPT:=Hd (show T[i]?=some (Sh.sm P st) by rw[HAT.out i hli,b0r,hP])
   have HPB:=Hd (show ∀ x∈P,0≤x∧x≤64 from fun x hx=>by
    obtain⟨k,hk⟩:=List.getElem?_of_mem hx;have hkl:k<n4:=by rw[←HPL.out];exact(lL hk)
    obtain⟨u,hu⟩:=a0f (l:=s) (k:=k) (by rw[HLS.out];exact hkl);obtain⟨v,hv⟩:=a0f (l:=f) (k:=k) (by rw[HLF.out];exact hkl);rw[HPA.out k u v hu hv] at hk;injection hk with hk;subst hk
    have h1:=HPO.out.2 u (mG hu);have h2:=HNF.out v (mG hv);have h3:=Int.emod_nonneg ((i:Int) / Sh.pd (s.drop (k+1))) (b:=u) (by omega);have h4:=Int.emod_lt_of_pos ((i:Int) / Sh.pd (s.drop (k+1))) (b:=u) (by omega)
    omega)
   clear hpo hP
   go_wp2_with fail
   go_loopw [24] (fun kv wr=>∃ k:Nat,kv=.int .i64 k∧k≤n4∧Sep w wr [.own 3 (.slice A4 n4 c4) n4 (Sh.strides s),.own 3 (.slice (some ⟨w.heap.size,0,none⟩) N N) N ((mix T (List.replicate N 0) i).set i (Sh.sm (P.take k) (st.take k))),.ints As n4 s,.ints Af n4 f,.ints At n4 st]) (fun kv _=>n4-(intOf kv).toNat)
   case atStart=>exact⟨0,rfl,by omega,by rw[List.take_zero,Sh.sm_nil_l,a8x HM.out];exact H⟩
   case round =>
    clear H;obtain⟨k,rfl,hk,hS⟩:=hrel;by_cases hlk:k<n4
    ·obtain⟨sa,x,hsA,_,hx,hcx,hfx⟩:=(hS.oldInts 2 rfl).at_ (k:=k) hlk;obtain⟨fa,y,hfA,_,hy,hcy,hfy⟩:=(hS.oldInts 3 rfl).at_ (k:=k) hlk;obtain⟨ta,z,htA,_,hz,hcz,hfz⟩:=(hS.oldInts 4 rfl).at_ (k:=k) hlk;obtain⟨ga,S,hgA,_,hs4,hcs4,hfs4⟩:=((hS.ownInts 0 rfl).2.2).at_ (k:=k) hlk;subst hsA;subst hfA;subst htA;subst hgA;have hS1:S=Sh.pd (s.drop (k+1)):=by have:=Sh.strides_at hx;rw[hs4] at this;injection this
     have hpx:=HPA.out k x y hx hy;rw[←hS1] at hpx;have hxd:=HPO.out.2 x (mG hx);have hyd:=HNF.out y (mG hy);have hzd:=HST.out z (mG hz);have hsd:=Sh.strides_bd HR S (mG hs4);have hsp:0<S:=by rw[hS1];exact pd_pos fun u hu=>(HPO.out.2 u (List.mem_of_mem_drop hu)).1
     obtain⟨hx1,hx2⟩:=hxd;obtain⟨hy1,hy2⟩:=hyd;obtain⟨hz1,hz2⟩:=hzd;obtain⟨hs1,hs2⟩:=hsd;have hd0:0≤(i:Int) / S:=Int.ediv_nonneg (by omega) (by omega);have hd1:(i:Int) / S≤9223372036854775807:=Int.le_trans (Int.ediv_le_self _ (by omega)) (by omega);have hm0:0≤(i:Int) / S % x:=Int.emod_nonneg _ (by omega);have hm1:(i:Int) / S % x<x:=Int.emod_lt_of_pos _ (by omega);obtain⟨V,hV⟩:∃ V,Sh.sm (P.take k) (st.take k)=V:=⟨_,rfl⟩;have hVb:=Sh.sm_bd (ps:=P.take k) (ws:=st.take k) (fun x hx=>HPB.out x (List.mem_of_mem_take hx)) (fun x hx=>HST.out x (List.mem_of_mem_take hx));rw[hV,List.length_take] at hVb;have hVl:min k P.length≤4:=by have:=HPL.out;omega
     obtain⟨hV0,hV1⟩:=hVb;have hp0:0≤(y+(i:Int) / S % x)*z:=Int.mul_nonneg (by omega) hz1;have hp1:(y+(i:Int) / S % x)*z≤64*z:=Int.mul_le_mul_of_nonneg_right (by omega) hz1;have hci:=(hS.own 1 rfl).cell (j:=i) (x:=V) (by rw[List.getElem?_set,iP rfl,iP (lL HM.out),hV]);have hfi:=(hS.own 1 rfl).frozen i;have hS2:=hS.store 1 i (x:=V+(y+(i:Int) / S % x)*z) ⟨by omega,by omega⟩ rfl;have hst:=Sh.sm_take hpx hz;rw[hV] at hst;rw[show List.set ((mix T (List.replicate N 0) i).set i (Sh.sm (P.take k) (st.take k))) i (V+(y+(i:Int) / S % x)*z)=(mix T (List.replicate N 0) i).set i (Sh.sm (P.take (k+1)) (st.take (k+1))) by rw[List.set_set,hst,Int.add_comm y]] at hS2;have HS2:=Hd hS2;have hw1:IntKind.i64.wrap (y+(i:Int) / S % x)=y+(i:Int) / S % x:=IntWalk.i64_in _ ⟨by omega,by omega⟩;have hw2:IntKind.i64.wrap ((y+(i:Int) / S % x)*z)=(y+(i:Int) / S % x)*z:=IntWalk.i64_in _ ⟨by omega,by omega⟩;have hw3:IntKind.i64.wrap (V+(y+(i:Int) / S % x)*z)=V+(y+(i:Int) / S % x)*z:=IntWalk.i64_in _ ⟨by omega,by omega⟩;have hSn:¬ S=0:=by omega
     have hxn:¬ x=0:=by omega
     have hw4:IntKind.i64.wrap ((i:Int) / S)=(i:Int) / S:=IntWalk.i64_in _ ⟨by omega,by omega⟩;have hw5:IntKind.i64.wrap ((i:Int) / S % x)=(i:Int) / S % x:=IntWalk.i64_in _ ⟨by omega,by omega⟩;clear hS hS2 hst hx hy hz hs4 hS1 hpx hV hfx hfy hfz hfs4 hVl
     go_upto_region 9 with fail
     go_still_tail 24,(by kernel_rfl)
     change wpList _ _ _ _ _ wr.drew;have hcz1:wr.drew.cell? ⟨w.heap.size,i,none⟩=some (.int .i64 V):=hci;have hfz1:wr.drew.frozen? ⟨w.heap.size,i,none⟩=false:=hfi;have hcx1:wr.drew.cell? (sa.add k)=some (.int .i64 x):=hcx;have hcy1:wr.drew.cell? (fa.add k)=some (.int .i64 y):=hcy;have hct1:wr.drew.cell? (ta.add k)=some (.int .i64 z):=hcz;have hcs1:wr.drew.cell? (ga.add k)=some (.int .i64 S):=hcs4;go_wp2;go_roundw
     case rel=>exact⟨k+1,by go_num,by omega,HS2.drew⟩
     case measure=>simp[intOf];omega
    ·have hkn:n4=k:=by omega
     subst hkn;rw[show(mix T (List.replicate N 0) i).set i (Sh.sm (P.take n4) (st.take n4))=mix T (List.replicate N 0) (i+1) by rw[List.take_of_length_le (by have:=HPL.out;omega),List.take_of_length_le (by have:=HLT.out;omega)];exact a3i HTL.out HPT.out] at hS;have H:=Hd hS;clear hS;go_wp2;go_roundw
     case rel=>exact⟨i+1,by go_num,by omega,H⟩
     case measure=>simp[intOf];omega
  ·have hin:N=i:=by omega
   subst hin;rw[a4n HTL.out] at H;go_wp2;go_ret;rw[HTQ.out];exact⟨⟨_,_,rfl,H.ownS 1 rfl⟩,H.base⟩
end Go.Proofs.YtjblengklgkgfaaGreat
