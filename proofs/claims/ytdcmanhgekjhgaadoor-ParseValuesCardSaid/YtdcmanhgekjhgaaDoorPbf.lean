import Derived.Test.YtdcmanhgekjhgaaDoorPbe
set_option maxRecDepth 100000
set_option maxHeartbeats 12800000
namespace Go.Proofs.YtdcmanhgekjhgaaDoor
open Go.RowKit Go.Proofs.Tryd
variable {G:a0w} {v:Value} {w:World}
theorem a9f (h:a2w w v G)(hs:b9v 80000 G):
  Calls prog 21 #[v] w fun e w'=>(∃ A m c,e=.returned (.tuple #[.slice A m c,.int .i64 (a0c G).1])∧m≤c∧Lils w' A m (a0c G).2)∧Below w.heap.size w w':=by
 have HG:=h;obtain⟨A,na,ca,B,nb,cb,C,nc,cc,rfl,hL⟩:=h;replace HG:=Hd HG;obtain⟨hia,hib,hic,hA,hB,hC,hnm⟩:=hL;have h1:=(((Sep.nil w).old hC).old hA).allocBox w.heap.size 34 [.slice A na ca,.string G.names,.slice B nb cb,.slice C nc cc] rfl;have hal:=hA.le;have hcl:=hC.le;have HAL:=Hd hA.len;have HCL:=Hd hC.len;have HBL:=Hd hB.1;have hbl:=hB.2.1;have HB:=Hd hB;clear hA hC hB
 go_enter func21,ntmps21
 go_upto_region 1 with fail
 generalize w.alloc (.cells #[.slice A na ca,.string G.names,.slice B nb cb,.slice C nc cc] 34)=W at *;have H:=Hd h1;clear h1;have hsm:=hs;have HSM:=Hd hsm;clear hsm hs;have HNZ:=Hd hnm;obtain⟨g0,g1,g2,g3⟩:=H.cells4 0 rfl;have CS:=b8f (c:=ca) (H.oldInts 1 rfl);have CN:=b8p (w:=W) (na:Int) hnm;have HME:=Hd (c4l G)
 cases hz:a5q G.sizes with
 | false =>
  rw[hz] at CS;have HX:=Hd (a8i (G:=G) (by rw[HME.out,hz];rfl));clear hz CN
  go_wp2_with fail
  refine CS.mono ?_;rintro e2 w2 ⟨rfl,rfl⟩;clear CS g0 g1 g2 g3;go_wp2;go_ret2;rw[HX.out]
  exact⟨⟨none,0,0,rfl,Nat.le_refl _,a4h _⟩,H.base⟩
 | true =>
  rw[hz] at CS
  go_wp2_with fail
  refine CS.mono ?_;rintro e2 w2 ⟨rfl,rfl⟩;clear CS
  cases hm:a4v (a0a G.names) (na:Int) with
  | false =>
   rw[hm] at CN;have HX:=Hd (a8i (G:=G) (by rw[HME.out,HAL.out,hm,Bool.and_false]));clear hm hz
   go_wp2_with fail
   refine CN.mono ?_;rintro e2 w2 ⟨rfl,hb⟩;replace H:=Hd (H.below hb);clear CN hb g0 g1 g2 g3;go_wp2;go_ret2;rw[HX.out]
   exact⟨⟨none,0,0,rfl,Nat.le_refl _,a4h _⟩,H.base⟩
  | true =>
   rw[hm] at CN;have HM:=Hd (show a6j G=true by rw[HME.out,hz,HAL.out,hm];rfl);clear hm hz
   go_wp2_with fail
   refine CN.mono ?_;rintro e2 w2 ⟨rfl,hb⟩;replace H:=Hd (H.below hb);clear CN hb g0 g1 g2 g3;obtain⟨g0,g1,g2,g3⟩:=H.cells4 0 rfl;by_cases l1:48<nb
   ·have e1:decide (48<nb)=true:=by simpa using l1
    have HX:=Hd (a8h HM (by have:=HBL.out;have:=HCL.out;omega));go_wp2;go_ret2;rw[HX.out];exact⟨⟨none,0,0,rfl,Nat.le_refl _,a4h _⟩,H.base⟩
   have e1:decide (48<nb)=false:=by simpa using l1
   by_cases l2:48<nc
   ·have e2:decide (48<nc)=true:=by simpa using l2
    have HX:=Hd (a8h HM (by have:=HBL.out;have:=HCL.out;omega));go_wp2;go_ret2;rw[HX.out];exact⟨⟨none,0,0,rfl,Nat.le_refl _,a4h _⟩,H.base⟩
   have e2:decide (48<nc)=false:=by simpa using l2
   have hl48:=Hd (show G.nodes.length≤48∧G.outs.length≤48 by have:=HBL.out;have:=HCL.out;omega);have hnb48:nb≤48:=by omega
   have hnc48:nc≤48:=by omega
   obtain⟨nm,hnmr⟩:∃ nm,a0a G.names=nm:=⟨_,rfl⟩;have HNM:=Hd hnmr;clear hnmr
   go_upto_region 5 with fail
   clear g0 g1 g2 g3;obtain⟨g0,g1,g2,g3⟩:=H.cells4 0 rfl;have hmk:=b0n (c:=nb) (by omega);have h2:=H.madeRow 31 1 0 nb (lRow nb) (by rw[a9m,Nat.mul_one]) (Nat.zero_le _) (by omega);rw[Nat.zero_mul,List.take_zero] at h2
   go_upto_region 6 with fail
   generalize w2.alloc (.cells (lRow nb) 31)=w4 at *;generalize hgr:w2.heap.size=gr at *;replace H:=Hd h2;clear h2 hmk hgr e1 e2 l1 l2 g0 g1 g2 g3;obtain⟨g0,g1,g2,g3⟩:=H.cells4 1 rfl
   go_wp2_with fail
   clear g0 g1 g2 g3
   go_loopw [41,4] (fun iv ov wr=>∃(j:Nat) (us:List Value) (pool:List a0e) (lx:Value) (acc:List (List Int)),lx=ov∧iv=.int .i64 j∧j≤nb∧acc.length=j∧a8k us acc pool∧a0m nm acc (G.nodes.drop j)=a0m nm [] G.nodes∧Sep w wr (.row 31 1 lx j us::.box w.heap.size 34 [.slice A na ca,.string G.names,.slice B nb cb,.slice C nc cc]::.ints A na G.sizes::.ints C nc G.outs::pool)) (fun iv _ _=>nb-(intOf iv).toNat)
   case atStart=>exact⟨0,[],[],_,[],rfl,rfl,by omega,rfl,c2c,rfl,H⟩
   case round =>
    clear H;obtain⟨j,us,pool,lx,acc,rfl,rfl,hj,hacc,hP,hgo,hS⟩:=hrel;have H:=Hd hS;have HP:=Hd hP;have HGO:=Hd hgo;have HACC:=Hd hacc;clear hS hP hgo hacc;obtain⟨Al,cl,hv,hcl,hLi⟩:=b4d 0 H rfl HP HACC (by omega) 4 (fun i=>rfl);subst hv;have HLI:=Hd hLi;clear hLi;obtain⟨g0,g1,g2,g3⟩:=H.cells4 1 rfl;by_cases hlt:j<nb
    ·obtain⟨nd,hnd⟩:∃ nd,G.nodes[j]?=some nd:=gE (by have:=HBL.out;omega);obtain⟨la,S,ns,cs,D,nD,cD,E,ne,ce,hla,hlb,k0,k1,k2,k3,k4,k5,k6,hNL⟩:=HB.out.2.2 j nd hnd;subst hla;obtain⟨c0,c1,c2,c3,c4,c5,c6⟩:=old7 H hlb k0 k1 k2 k3 k4 k5 k6;have HGD:=Hd (show a0m nm acc (nd::G.nodes.drop (j+1))=a0m nm [] G.nodes by rw[←c6t hnd];exact HGO);have hns:=HSM.out j nd hnd;have HNL:=Hd hNL;clear k0 k1 k2 k3 k4 k5 k6 hNL hnd;have h3:=H.allocBox wr.heap.size 47 [.int .i64 nd.op,.slice S ns cs,.slice D nD cD,.slice E ne ce,.int .i64 nd.n,.int .i64 nd.how,.string nd.note] rfl;have hbw:=(Below.refl wr.heap.size wr).alloc (Nat.le_refl _) (.cells #[.int .i64 nd.op,.slice S ns cs,.slice D nD cD,.slice E ne ce,.int .i64 nd.n,.int .i64 nd.how,.string nd.note] 47);have hLi3:=HLI.below hbw
     go_upto_region 9 with fail
     generalize wr.alloc (.cells #[.int .i64 nd.op,.slice S ns cs,.slice D nD cD,.slice E ne ce,.int .i64 nd.n,.int .i64 nd.how,.string nd.note] 47)=w3 at *;generalize wr.heap.size=gn at *;replace H:=Hd h3;clear h3 c0 c1 c2 c3 c4 c5 c6 g0 g1 g2 g3 hbw;obtain⟨g0,g1,g2,g3⟩:=H.cells4 2 rfl;obtain⟨n0,n1,n2,n3,n4,n5,n6⟩:=H.cells7 0 rfl;have CX:=c0p (cl:=cl) HNZ (show a4p w3 (.agg #[.int .i64 nd.op,.slice S ns cs,.slice D nD cD,.slice E ne ce,.int .i64 nd.n,.int .i64 nd.how,.string nd.note]) nd from⟨S,ns,cs,D,nD,cD,E,ne,ce,rfl,HNL.below H.base⟩) hLi3 hns;rw[HNM.out] at CX;obtain⟨⟨e5,s5⟩,hR⟩:∃ r,a6l nm acc nd=r:=⟨_,rfl⟩;rw[hR] at CX;have HGX:=Hd (show a0m nm [] G.nodes=if e5=0 then a0m nm (acc++[s5]) (G.nodes.drop (j+1)) else(e5,[]) by rw[←HGD.out,b2r,hR]);clear hLi3 hR
     go_wp2_with fail
     refine CX.mono ?_;rintro e4 w5 ⟨⟨v5,m5,rfl,hO⟩,hb4⟩;clear CX n0 n1 n2 n3 n4 n5 n6 g0 g1 g2 g3;replace hO:OwnS w5 _ 3 v5 m5 s5:=hO;obtain⟨A5,c5,rfl,hmc5,_,_⟩:=hO.form;replace H:=Hd (H.addOwn hb4 hO);clear hO hb4;by_cases he:e5=0
     ·subst he;have HG2:=Hd (show a0m nm (acc++[s5]) (G.nodes.drop (j+1))=a0m nm [] G.nodes by rw[HGX.out,iP rfl])
      go_wp2_with (at_builtin;refine a7u rfl (.tmp 56) (.tmp 58) 52 rfl underlying52 H.out 2 rfl rfl _ rfl ?c1 ?_)
      case c1=>omega
      intro v9 w9 h9;have h10:=Sep.tail_ (Sep.perm h9 (l':=[_,.row 31 1 v9 (j+1) (us++[.slice A5 m5 c5]),.box w.heap.size 34 [.slice A na ca,.string G.names,.slice (some la) nb cb,.slice C nc cc],.ints A na G.sizes,.ints C nc G.outs]++([a0e.own 3 (.slice A5 m5 c5) m5 s5]++pool)) (by rw[←List.append_assoc];exact(List.perm_append_comm (l₁:=[a0e.own 3 (.slice A5 m5 c5) m5 s5]) (l₂:=[_,_,_,_,_])).append_right pool));have H10:=Hd h10;clear h9 h10;go_wp2;go_roundw
      case rel=>exact⟨j+1,us++[Value.slice A5 m5 c5],a0e.own 3 (.slice A5 m5 c5) m5 s5::pool,_,acc++[s5],rfl,by go_num,by omega,by rw[List.length_append,List.length_singleton,HACC.out],HP.more,HG2,H10⟩
      case measure=>simp[intOf];omega
     ·have dE:(e5 != 0)=true:=by simpa using he
      have HX:=Hd (b9j HM hl48 (by rw[HNM.out,HGX.out,iN he]) he);clear he;go_wp2;go_ret2;rw[HX.out];exact⟨⟨none,0,0,rfl,Nat.le_refl _,a4h _⟩,H.base⟩
    ·obtain rfl:j=nb:=by omega
     have HEND:=Hd (show a0m nm [] G.nodes=(0,acc) by rw[←HGO.out,List.drop_eq_nil_of_le (by have:=HBL.out;omega),a0m]);have HXE:=Hd (b0s HM hl48 (by rw[HNM.out];exact HEND))
     go_wp2_with fail
     clear g0 g1 g2 g3
     go_loopw [64] (fun iv wr=>∃ q:Nat,iv=.int .i64 q∧q≤nc∧(∀(i:Nat) (x:Int),G.outs[i]?=some x→i<q→0≤x∧x<j)∧Sep w wr (.row 31 1 (.slice Al j cl) j us::.box w.heap.size 34 [.slice A na ca,.string G.names,.slice B j cb,.slice C nc cc]::.ints A na G.sizes::.ints C nc G.outs::pool)) (fun iv _=>nc-(intOf iv).toNat)
     case atStart=>exact⟨0,rfl,by omega,by omega,H⟩
     case round =>
      clear H;obtain⟨q,rfl,hq,hAll,hS⟩:=hrel;have H:=Hd hS;have HA:=Hd hAll;clear hS hAll;by_cases hlq:q<nc
      ·obtain⟨sa,x,hsA,_,hx,hcx,_⟩:=(H.oldInts 3 rfl).at_ (k:=q) hlq;subst hsA;by_cases h1:x<0
       ·have d1:decide (x<0)=true:=by simpa using h1
        have HX:=Hd (HXE.trans (by rw[b7k hx (by have:=HBL.out;omega)];rfl:_=((23:Int),([]:List (List Int)))));clear hx;go_wp2;go_ret2;rw[HX.out];exact⟨⟨none,0,0,rfl,Nat.le_refl _,a4h _⟩,H.base⟩
       obtain⟨xx,rfl⟩:=eZ (by omega:0≤x);have d1:decide ((xx:Int)<0)=false:=by simp
       by_cases h2:j≤xx
       ·have d2:decide (j≤xx)=true:=by simpa using h2
        have HX:=Hd (HXE.trans (by rw[b7k hx (by have:=HBL.out;omega)];rfl:_=((23:Int),([]:List (List Int)))));clear hx;go_wp2;go_ret2;rw[HX.out];exact⟨⟨none,0,0,rfl,Nat.le_refl _,a4h _⟩,H.base⟩
       have d2:decide (j≤xx)=false:=by simpa using h2
       have HXX:=Hd hx;clear hx;go_wp2;go_roundw
       case rel=>exact⟨q+1,by go_num,by omega,fun i y hi hi2=>by
        rcases Nat.lt_or_ge i q with hij|hij
        ·exact HA i y hi hij
        ·obtain rfl:i=q:=by omega
         have h9:=HXX.out
         rw[hi] at h9;injection h9 with h9;omega,H⟩
       case measure=>simp[intOf];omega
      ·obtain rfl:q=nc:=by omega
       have HX:=Hd (HXE.trans (iP (c1w fun i x hi=>by rw[HBL.out];exact HA i x hi (by have:=HCL.out;have:=(lL hi);omega))));obtain⟨Al9,cl9,hv,hcl2,hLi⟩:=b4d 0 H rfl HP HACC (by omega) 4 (fun i=>rfl);injection hv with hv1 _ hv3
       subst hv1;subst hv3;have HLI:=Hd hLi;clear hLi;go_wp2;go_ret2;rw[HX.out];exact⟨⟨_,_,_,rfl,hcl2,HLI⟩,H.base⟩
theorem b8d (h:a2w w v G)(hs:b9v 80000 G):
  Calls prog 15 #[v] w fun e w'=>e=.returned (.int .i64 (a0c G).1)∧Below w.heap.size w w':=by
 have HG:=h;obtain⟨A,na,ca,B,nb,cb,C,nc,cc,rfl,hL⟩:=h;replace HG:=Hd HG;obtain⟨hia,hib,hic,hA,hB,hC,hnm⟩:=hL;have h1:=(((Sep.nil w).old hC).old hA).allocBox w.heap.size 34 [.slice A na ca,.string G.names,.slice B nb cb,.slice C nc cc] rfl;have hal:=hA.le;have hcl:=hC.le;have HAL:=Hd hA.len;have HCL:=Hd hC.len;have HBL:=Hd hB.1;have hbl:=hB.2.1;have HB:=Hd hB;clear hA hC hB
 go_enter func15,ntmps15
 go_upto_region 1 with fail
 generalize w.alloc (.cells #[.slice A na ca,.string G.names,.slice B nb cb,.slice C nc cc] 34)=W at *;have H:=Hd h1;clear h1;obtain⟨g0,g1,g2,g3⟩:=H.cells4 0 rfl
 go_wp2_with fail
 refine(a9f (HG.below H.base) hs).mono ?_;rintro e2 w2 ⟨⟨A5,m5,c5,rfl,_,_⟩,hb⟩;replace H:=Hd (H.below hb);clear hb g0 g1 g2 g3;go_wp2;go_ret;exact⟨rfl,H.base⟩
end Go.Proofs.YtdcmanhgekjhgaaDoor
