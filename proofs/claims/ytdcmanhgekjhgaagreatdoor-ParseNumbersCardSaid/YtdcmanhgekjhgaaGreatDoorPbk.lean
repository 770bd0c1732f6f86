import Derived.Test.YtdcmanhgekjhgaaGreatDoorPbj
set_option maxRecDepth 100000
set_option maxHeartbeats 12800000
namespace Go.Proofs.YtdcmanhgekjhgaaGreatDoor
open Go.RowKit Go.Proofs.Tryz
variable {G:a1d} {S T:ByteArray} {v:Value} {w w0:World}
theorem b7k (h:a1m w v G)(hs:c4r 80000 G):
  Calls prog 65 #[v] w fun e w'=>(∃ A m c,e=.returned (.tuple #[.slice A m c,.int .i64 (a0f G).1])∧m≤c∧Lils w' A m (a0f G).2)∧Below w.heap.size w w':=by
 have HG:=h;obtain⟨A,na,ca,B,nb,cb,C,nc,cc,rfl,hL⟩:=h;replace HG:=Hd HG;obtain⟨hia,hib,hic,hA,hB,hC,hnm⟩:=hL;have h1:=(((Sep.nil w).old hC).old hA).allocBox w.heap.size 28 [.slice A na ca,.string G.names,.slice B nb cb,.slice C nc cc] rfl;have hal:=hA.le;have hcl:=hC.le;have HAL:=Hd hA.len;have HCL:=Hd hC.len;have HBL:=Hd hB.1;have hbl:=hB.2.1;have HB:=Hd hB;clear hA hC hB
 go_enter func65,ntmps65
 go_upto_region 1 with fail
 generalize w.alloc (.cells #[.slice A na ca,.string G.names,.slice B nb cb,.slice C nc cc] 28)=W at *;have H:=Hd h1;clear h1;have hsm:=hs;have HSM:=Hd hsm;clear hsm hs;have HNZ:=Hd hnm;obtain⟨g0,g1,g2,g3⟩:=H.cells4 0 rfl;have CS:=d2q (c:=ca) (H.oldInts 1 rfl);have CN:=d3c (w:=W) (na:Int) hnm;have HME:=Hd (e1k G)
 cases hz:b2c G.sizes with
 | false =>
  rw[hz] at CS;have HX:=Hd (b0q (G:=G) (by rw[HME.out,hz];rfl));clear hz CN
  go_wp2_with fail
  refine CS.mono ?_;rintro e2 w2 ⟨rfl,rfl⟩;clear CS g0 g1 g2 g3;go_wp2;go_ret2;rw[HX.out]
  exact⟨⟨none,0,0,rfl,Nat.le_refl _,a3h _⟩,H.base⟩
 | true =>
  rw[hz] at CS
  go_wp2_with fail
  refine CS.mono ?_;rintro e2 w2 ⟨rfl,rfl⟩;clear CS
  cases hm:a7v (a0a G.names) (na:Int) with
  | false =>
   rw[hm] at CN;have HX:=Hd (b0q (G:=G) (by rw[HME.out,HAL.out,hm,Bool.and_false]));clear hm hz
   go_wp2_with fail
   refine CN.mono ?_;rintro e2 w2 ⟨rfl,hb⟩;replace H:=Hd (H.below hb);clear CN hb g0 g1 g2 g3;go_wp2;go_ret2;rw[HX.out]
   exact⟨⟨none,0,0,rfl,Nat.le_refl _,a3h _⟩,H.base⟩
  | true =>
   rw[hm] at CN;have HM:=Hd (show a7n G=true by rw[HME.out,hz,HAL.out,hm];rfl);clear hm hz
   go_wp2_with fail
   refine CN.mono ?_;rintro e2 w2 ⟨rfl,hb⟩;replace H:=Hd (H.below hb);clear CN hb g0 g1 g2 g3;obtain⟨g0,g1,g2,g3⟩:=H.cells4 0 rfl;by_cases l1:48<nb
   ·have e1:decide (48<nb)=true:=by simpa using l1
    have HX:=Hd (a7x HM (by have:=HBL.out;have:=HCL.out;omega));go_wp2;go_ret2;rw[HX.out];exact⟨⟨none,0,0,rfl,Nat.le_refl _,a3h _⟩,H.base⟩
   have e1:decide (48<nb)=false:=by simpa using l1
   by_cases l2:48<nc
   ·have e2:decide (48<nc)=true:=by simpa using l2
    have HX:=Hd (a7x HM (by have:=HBL.out;have:=HCL.out;omega));go_wp2;go_ret2;rw[HX.out];exact⟨⟨none,0,0,rfl,Nat.le_refl _,a3h _⟩,H.base⟩
   have e2:decide (48<nc)=false:=by simpa using l2
   have hl48:=Hd (show G.nodes.length≤48∧G.outs.length≤48 by have:=HBL.out;have:=HCL.out;omega);have hnb48:nb≤48:=by omega
   have hnc48:nc≤48:=by omega
   obtain⟨nm,hnmr⟩:∃ nm,a0a G.names=nm:=⟨_,rfl⟩;have HNM:=Hd hnmr;clear hnmr
   go_upto_region 5 with fail
   clear g0 g1 g2 g3;obtain⟨g0,g1,g2,g3⟩:=H.cells4 0 rfl;have hmk:=b9j (c:=nb) (by omega);have h2:=H.madeRow 25 1 0 nb (lRow nb) (by rw[b7z,Nat.mul_one]) (Nat.zero_le _) (by omega);rw[Nat.zero_mul,List.take_zero] at h2
   go_upto_region 6 with fail
   generalize w2.alloc (.cells (lRow nb) 25)=w4 at *;generalize hgr:w2.heap.size=gr at *;replace H:=Hd h2;clear h2 hmk hgr e1 e2 l1 l2 g0 g1 g2 g3;obtain⟨g0,g1,g2,g3⟩:=H.cells4 1 rfl
   go_wp2_with fail
   clear g0 g1 g2 g3
   go_loopw [41,4] (fun iv ov wr=>∃(j:Nat) (us:List Value) (pool:List a0e) (lx:Value) (acc:List (List Int)),lx=ov∧iv=.int .i64 j∧j≤nb∧acc.length=j∧a8u us acc pool∧a0m nm acc (G.nodes.drop j)=a0m nm [] G.nodes∧Sep w wr (.row 25 1 lx j us::.box w.heap.size 28 [.slice A na ca,.string G.names,.slice B nb cb,.slice C nc cc]::.ints A na G.sizes::.ints C nc G.outs::pool)) (fun iv _ _=>nb-(intOf iv).toNat)
   case atStart=>exact⟨0,[],[],_,[],rfl,rfl,by omega,rfl,b0i,rfl,H⟩
   case round =>
    clear H;obtain⟨j,us,pool,lx,acc,rfl,rfl,hj,hacc,hP,hgo,hS⟩:=hrel;have H:=Hd hS;have HP:=Hd hP;have HGO:=Hd hgo;have HACC:=Hd hacc;clear hS hP hgo hacc;obtain⟨Al,cl,hv,hcl,hLi⟩:=a8q 0 H rfl HP HACC (by omega) 4 (fun i=>rfl);subst hv;have HLI:=Hd hLi;clear hLi;obtain⟨g0,g1,g2,g3⟩:=H.cells4 1 rfl;by_cases hlt:j<nb
    ·obtain⟨nd,hnd⟩:∃ nd,G.nodes[j]?=some nd:=gE (by have:=HBL.out;omega);obtain⟨la,S,ns,cs,D,nD,cD,E,ne,ce,hla,hlb,k0,k1,k2,k3,k4,k5,k6,hNL⟩:=HB.out.2.2 j nd hnd;subst hla;obtain⟨c0,c1,c2,c3,c4,c5,c6⟩:=old7 H hlb k0 k1 k2 k3 k4 k5 k6;have HGD:=Hd (show a0m nm acc (nd::G.nodes.drop (j+1))=a0m nm [] G.nodes by rw[←d5l hnd];exact HGO);have hns:=HSM.out j nd hnd;have HNL:=Hd hNL;clear k0 k1 k2 k3 k4 k5 k6 hNL hnd;have h3:=H.allocBox wr.heap.size 49 [.int .i64 nd.op,.slice S ns cs,.slice D nD cD,.slice E ne ce,.int .i64 nd.n,.int .i64 nd.how,.string nd.note] rfl;have hbw:=(Below.refl wr.heap.size wr).alloc (Nat.le_refl _) (.cells #[.int .i64 nd.op,.slice S ns cs,.slice D nD cD,.slice E ne ce,.int .i64 nd.n,.int .i64 nd.how,.string nd.note] 49);have hLi3:=HLI.below hbw
     go_upto_region 9 with fail
     generalize wr.alloc (.cells #[.int .i64 nd.op,.slice S ns cs,.slice D nD cD,.slice E ne ce,.int .i64 nd.n,.int .i64 nd.how,.string nd.note] 49)=w3 at *;generalize wr.heap.size=gn at *;replace H:=Hd h3;clear h3 c0 c1 c2 c3 c4 c5 c6 g0 g1 g2 g3 hbw;obtain⟨g0,g1,g2,g3⟩:=H.cells4 2 rfl;obtain⟨n0,n1,n2,n3,n4,n5,n6⟩:=H.cells7 0 rfl;have CX:=d6b (cl:=cl) HNZ (show a4r w3 (.agg #[.int .i64 nd.op,.slice S ns cs,.slice D nD cD,.slice E ne ce,.int .i64 nd.n,.int .i64 nd.how,.string nd.note]) nd from⟨S,ns,cs,D,nD,cD,E,ne,ce,rfl,HNL.below H.base⟩) hLi3 hns;rw[HNM.out] at CX;obtain⟨⟨e5,s5⟩,hR⟩:∃ r,b3h nm acc nd=r:=⟨_,rfl⟩;rw[hR] at CX;have HGX:=Hd (show a0m nm [] G.nodes=if e5=0 then a0m nm (acc++[s5]) (G.nodes.drop (j+1)) else(e5,[]) by rw[←HGD.out,c3y,hR]);clear hLi3 hR
     go_wp2_with fail
     refine CX.mono ?_;rintro e4 w5 ⟨⟨v5,m5,rfl,hO⟩,hb4⟩;clear CX n0 n1 n2 n3 n4 n5 n6 g0 g1 g2 g3;replace hO:OwnS w5 _ 3 v5 m5 s5:=hO;obtain⟨A5,c5,rfl,hmc5,_,_⟩:=hO.form;replace H:=Hd (H.addOwn hb4 hO);clear hO hb4;by_cases he:e5=0
     ·subst he;have HG2:=Hd (show a0m nm (acc++[s5]) (G.nodes.drop (j+1))=a0m nm [] G.nodes by rw[HGX.out,iP rfl])
      go_wp2_with (at_builtin;refine a2n rfl (.tmp 56) (.tmp 58) 44 rfl underlying44 H.out 2 rfl rfl _ rfl ?c1 ?_)
      case c1=>omega
      intro v9 w9 h9;have h10:=Sep.tail_ (Sep.perm h9 (l':=[_,.row 25 1 v9 (j+1) (us++[.slice A5 m5 c5]),.box w.heap.size 28 [.slice A na ca,.string G.names,.slice (some la) nb cb,.slice C nc cc],.ints A na G.sizes,.ints C nc G.outs]++([a0e.own 3 (.slice A5 m5 c5) m5 s5]++pool)) (by rw[←List.append_assoc];exact(List.perm_append_comm (l₁:=[a0e.own 3 (.slice A5 m5 c5) m5 s5]) (l₂:=[_,_,_,_,_])).append_right pool));have H10:=Hd h10;clear h9 h10;go_wp2;go_roundw
      case rel=>exact⟨j+1,us++[Value.slice A5 m5 c5],a0e.own 3 (.slice A5 m5 c5) m5 s5::pool,_,acc++[s5],rfl,by go_num,by omega,by rw[List.length_append,List.length_singleton,HACC.out],HP.more,HG2,H10⟩
      case measure=>simp[intOf];omega
     ·have dE:(e5 != 0)=true:=by simpa using he
      have HX:=Hd (a8s HM hl48 (by rw[HNM.out,HGX.out,iN he]) he);clear he;go_wp2;go_ret2;rw[HX.out];exact⟨⟨none,0,0,rfl,Nat.le_refl _,a3h _⟩,H.base⟩
    ·obtain rfl:j=nb:=by omega
     have HEND:=Hd (show a0m nm [] G.nodes=(0,acc) by rw[←HGO.out,List.drop_eq_nil_of_le (by have:=HBL.out;omega),a0m]);have HXE:=Hd (b2t HM hl48 (by rw[HNM.out];exact HEND))
     go_wp2_with fail
     clear g0 g1 g2 g3
     go_loopw [64] (fun iv wr=>∃ q:Nat,iv=.int .i64 q∧q≤nc∧(∀(i:Nat) (x:Int),G.outs[i]?=some x→i<q→0≤x∧x<j)∧Sep w wr (.row 25 1 (.slice Al j cl) j us::.box w.heap.size 28 [.slice A na ca,.string G.names,.slice B j cb,.slice C nc cc]::.ints A na G.sizes::.ints C nc G.outs::pool)) (fun iv _=>nc-(intOf iv).toNat)
     case atStart=>exact⟨0,rfl,by omega,by omega,H⟩
     case round =>
      clear H;obtain⟨q,rfl,hq,hAll,hS⟩:=hrel;have H:=Hd hS;have HA:=Hd hAll;clear hS hAll;by_cases hlq:q<nc
      ·obtain⟨sa,x,hsA,_,hx,hcx,_⟩:=(H.oldInts 3 rfl).at_ (k:=q) hlq;subst hsA;by_cases h1:x<0
       ·have d1:decide (x<0)=true:=by simpa using h1
        have HX:=Hd (HXE.trans (by rw[b6m hx (by have:=HBL.out;omega)];rfl:_=((23:Int),([]:List (List Int)))));clear hx;go_wp2;go_ret2;rw[HX.out];exact⟨⟨none,0,0,rfl,Nat.le_refl _,a3h _⟩,H.base⟩
       obtain⟨xx,rfl⟩:=eZ (by omega:0≤x);have d1:decide ((xx:Int)<0)=false:=by simp
       by_cases h2:j≤xx
       ·have d2:decide (j≤xx)=true:=by simpa using h2
        have HX:=Hd (HXE.trans (by rw[b6m hx (by have:=HBL.out;omega)];rfl:_=((23:Int),([]:List (List Int)))));clear hx;go_wp2;go_ret2;rw[HX.out];exact⟨⟨none,0,0,rfl,Nat.le_refl _,a3h _⟩,H.base⟩
       have d2:decide (j≤xx)=false:=by simpa using h2
       have HXX:=Hd hx;clear hx;go_wp2;go_roundw
       case rel=>exact⟨q+1,by go_num,by omega,fun i y hi hi2=>by
        rcases Nat.lt_or_ge i q with hij|hij
        ·exact HA i y hi hij
        ·obtain rfl:i=q:=by omega
         have h9:=HXX.out
         rw[hi] at h9;injection h9 with h9;omega,H⟩
       case measure=>simp[intOf];omega
      ·obtain rfl:q=nc:=by omega
       have HX:=Hd (HXE.trans (iP (c6e fun i x hi=>by rw[HBL.out];exact HA i x hi (by have:=HCL.out;have:=(lL hi);omega))));obtain⟨Al9,cl9,hv,hcl2,hLi⟩:=a8q 0 H rfl HP HACC (by omega) 4 (fun i=>rfl);injection hv with hv1 _ hv3
       subst hv1;subst hv3;have HLI:=Hd hLi;clear hLi;go_wp2;go_ret2;rw[HX.out];exact⟨⟨_,_,_,rfl,hcl2,HLI⟩,H.base⟩
theorem d2o (h:a1m w v G)(hs:c4r 80000 G):
  Calls prog 36 #[v] w fun e w'=>e=.returned (.int .i64 (a0f G).1)∧Below w.heap.size w w':=by
 have HG:=h;obtain⟨A,na,ca,B,nb,cb,C,nc,cc,rfl,hL⟩:=h;replace HG:=Hd HG;obtain⟨hia,hib,hic,hA,hB,hC,hnm⟩:=hL;have h1:=(((Sep.nil w).old hC).old hA).allocBox w.heap.size 28 [.slice A na ca,.string G.names,.slice B nb cb,.slice C nc cc] rfl;have hal:=hA.le;have hcl:=hC.le;have HAL:=Hd hA.len;have HCL:=Hd hC.len;have HBL:=Hd hB.1;have hbl:=hB.2.1;have HB:=Hd hB;clear hA hC hB
 go_enter func36,ntmps36
 go_upto_region 1 with fail
 generalize w.alloc (.cells #[.slice A na ca,.string G.names,.slice B nb cb,.slice C nc cc] 28)=W at *;have H:=Hd h1;clear h1;obtain⟨g0,g1,g2,g3⟩:=H.cells4 0 rfl
 go_wp2_with fail
 refine(b7k (HG.below H.base) hs).mono ?_;rintro e2 w2 ⟨⟨A5,m5,c5,rfl,_,_⟩,hb⟩;replace H:=Hd (H.below hb);clear hb g0 g1 g2 g3;go_wp2;go_ret;exact⟨rfl,H.base⟩
theorem d9m {s t:ByteArray}(rank:Int)(hs:s.size≤17592186044000)(ht:t.size≤17592186044000):
  Calls prog 72 #[.string s,.string t,.int .i64 rank] w fun e w'=>(∃ S:ByteArray,e=.returned (.string S)∧orT S=a4o (a0a s) t rank∧S.size≤64)∧Below w.heap.size w w':=by
 have C1:=Hd (c6a (w:=w) rank hs ht);have HS:=Hd hs;have HQ:=Hd (e2h (a0a s) t rank)
 have HZ:=Hd (show(a3q (a0a s) (a4n (a0a s) (a0a t) rank).1).size≤64 by
  have h:=a8t (a0a s) (a4n (a0a s) (a0a t) rank).1;have:=b3j (a0a s) (a0a t) rank
  omega)
 have HL:=Hd (b3j (a0a s) (a0a t) rank);clear hs ht;obtain⟨nm,hnm⟩:∃ l,a0a s=l:=⟨_,rfl⟩;have HNM:=Hd hnm;obtain⟨R,hR⟩:∃ R,a4n nm (a0a t) rank=R:=⟨_,rfl⟩;rw[hnm,hR] at C1 HZ HL;rw[hnm,hR] at HQ;clear hnm hR;obtain⟨l9,b9,e9⟩:=R;rw[HNM.out]
 go_enter func72,ntmps72
 go_wp2_with fail
 refine C1.mono ?_;rintro e1 w1 ⟨⟨v,m,rfl,hO⟩,hb⟩;have HB:=Hd hb;have HLM:=Hd hO.len;obtain⟨X,xc,rfl,hxc,hI,_⟩:=hO.form;have C2:=Hd (d7f (c:=xc) HS hI (by have:=HL.out;have:=HLM.out;omega));rw[HNM.out] at C2;clear hb hO hI
 go_wp2_with fail
 refine C2.mono ?_;rintro e2 w2 ⟨rfl,hb2⟩;replace HB:=Hd (a1c HB hb2);clear hb2;go_wp2;go_ret;exact⟨⟨_,rfl,HQ,HZ⟩,HB⟩
theorem b9w {A:Option Addr}{n c:Nat}{xs:List Int}(hI:Ints w0 A n xs)(hT:Tabs w0)(h:Wb w0 w T)(hl:T.size+22*n+4<140737488355328):
  Calls prog 107 #[.pointer (some ⟨w0.heap.size,0,none⟩),.slice A n c] w fun e w'=>e=.returned (.tuple #[])∧∃ T', a6m T' (T++a7c xs)∧Wb w0 w' T'∧a6h w0 w w':=by
 have HI:=Hd hI;have HT:=Hd hT;have HL:=Hd hl;have HLN:=Hd hI.len;have z0:spT.size=1:=rfl;have z1:(⟨#[40]⟩:ByteArray).size=1:=rfl;have z2:(⟨#[41]⟩:ByteArray).size=1:=rfl;have C1:=Hd (a7l ⟨#[40]⟩ h (by omega));clear hI hT hl h
 go_enter func107,ntmps107
 go_wp2_with fail
 refine C1.mono ?_;rintro e1 w1 ⟨rfl,h1,k1⟩;have HK:=Hd k1;have C2:=Hd (b9x (c:=c) HI HT h1 (by have:=HL.out;simp only[ByteArray.size_append];omega));clear h1 k1
 go_wp2_with fail
 refine C2.mono ?_;rintro e2 w2 ⟨rfl,T2,hn2,h2,k2⟩;replace HK:=Hd (HK.trans k2);have HN2:=Hd hn2
 have HZ2:=Hd (show T2.size+2<140737488355328 by
  have a:=hn2.le;have b:=a6t xs (T++spT++⟨#[40]⟩);simp only[ByteArray.size_append] at b
  have:=HL.out;have:=HLN.out;omega)
 have C3:=Hd (a7l ⟨#[41]⟩ h2 (by have:=HZ2.out;omega));clear h2 k2 hn2
 go_wp2_with fail
 refine C3.mono ?_;rintro e3 w3 ⟨rfl,h3,k3⟩;replace HK:=Hd (HK.trans k3);have HW:=Hd h3;clear h3 k3;go_wp2
 go_end0
 refine⟨rfl,_,?_,HW,HK⟩;rw[←e1b];exact(HN2.add _).add _
def e6j (o:ByteArray) (nd:a0l) (nt:ByteArray):ByteArray :=
 o++a5s nd.op++a7c nd.ins++a7c nd.shape++a7c nd.a++spT++numT nd.n++spT++numT nd.how++spT++nt++lfT
theorem e1a (nm:List Int)(o:ByteArray)(nd:a0l)(s:List Int):e6j o nd (a4o nm nd.note s.length)=a9z nm o nd s:=rfl
theorem e2n (h:S.size≤64):(orT S).size≤64:=by
 unfold orT;split
 ·show 1≤64;omega
 ·exact h
theorem d9l {u:Value}{nd:a0l}(hN:a4r w0 u nd)(hT:Tabs w0)(h:Wb w0 w T)(hS:S.size≤64)
  (h1:nd.ins.length≤80000)(h2:nd.shape.length≤80000)(h3:nd.a.length≤80000)(hl:T.size≤70368744177664):
  Calls prog 71 #[.pointer (some ⟨w0.heap.size,0,none⟩),u,.string S] w fun e w'=>e=.returned (.tuple #[])∧∃ T', a6m T' (e6j T nd (orT S))∧Wb w0 w' T'∧a6h w0 w w':=by
 obtain⟨P,ns,cs,D,nD,cD,E,ne,ce,rfl,hL⟩:=hN
 have hgn:w.heap.size≠w0.heap.size:=by
  have:=a2y (show ∃ o,w.heap[w0.heap.size]?=some o from by
   rcases h.1 with h|h
   ·exact⟨_,h.2.choose_spec.1⟩
   ·exact⟨_,h.2.choose_spec.1⟩).choose_spec
  omega
 have HGN:=Hd hgn;have hlen1:ns≤80000:=by have:=hL.inA.len;omega
 have hlen2:nD≤80000:=by have:=hL.inB.len;omega
 have hlen3:ne≤80000:=by have:=hL.inC.len;omega
 have H1:=Hd hL.inA;have H2:=Hd hL.inB;have H3:=Hd hL.inC;have HFn:=Hd hL.n;have HFh:=Hd hL.how;have HFo:=Hd hL.op;have HT:=Hd hT;have y0:=b4r nd.op;have y1:=a4e nd.ins;have y2:=a4e nd.shape;have y3:=a4e nd.a;have y4:=a3y nd.n;have y5:=a3y nd.how;have y6:=e2n hS;have z0:spT.size=1:=rfl;have hb0:Below w.heap.size w (w.alloc (.cells #[.int .i64 nd.op,.slice P ns cs,.slice D nD cD,.slice E ne ce,.int .i64 nd.n,.int .i64 nd.how,.string nd.note] 49)):=(Below.refl _ _).alloc (Nat.le_refl _) _;have HW:=Hd (h.below hb0);have HK:=Hd (a9a (w0:=w0) hb0);have HX:Hid ((w.alloc (.cells #[.int .i64 nd.op,.slice P ns cs,.slice D nD cD,.slice E ne ce,.int .i64 nd.n,.int .i64 nd.how,.string nd.note] 49)).heap[w.heap.size]?=some (.cells #[.int .i64 nd.op,.slice P ns cs,.slice D nD cD,.slice E ne ce,.int .i64 nd.n,.int .i64 nd.how,.string nd.note] 49 (0,0))):=Hd (heap_alloc_new w _);clear h hL hT hgn hb0
 go_enter func71,ntmps71
 go_upto_region 1 with fail
 generalize w.alloc (.cells #[.int .i64 nd.op,.slice P ns cs,.slice D nD cD,.slice E ne ce,.int .i64 nd.n,.int .i64 nd.how,.string nd.note] 49)=wa at *;generalize w.heap.size=gn at *;have CO:=Hd (c7q wa HFo (HT.below HW.out.2));have CO2:=Hd (b6q (w:=wa) (a5s nd.op) HW (by omega));have q0:=Joins.cell_of_block HX 0
 go_wp2_with fail
 refine CO.mono ?_;rintro e1 w1 ⟨rfl,rfl⟩;clear q0
 go_wp2_with fail
 refine CO2.mono ?_;rintro e2 w2 ⟨⟨m2,rfl⟩,h2,k2⟩;replace HX:=Hd (a6h.box k2 HX HGN (by decide));replace HK:=Hd (HK.trans k2);replace HW:=Hd h2;clear h2 k2 CO CO2;have HN:=Hd (a6m.refl (T++a5s nd.op));obtain⟨U0,hU0⟩:∃ U,T++a5s nd.op=U:=⟨_,rfl⟩;have e0:U0.size≤T.size+6:=by rw[←hU0,ByteArray.size_append];omega
 rw[hU0] at HN HW;have HU0:=Hd hU0;clear hU0;have HE0:=Hd e0;have q1:=Joins.cell_of_block HX 1;have C3:=Hd (b9w (c:=cs) H1 HT HW (by have:=HN.le;have:=HE0.out;omega))
 go_wp2_with fail
 refine C3.mono ?_;rintro e3 w3 ⟨rfl,V3,hn3,h3,k3⟩;replace HX:=Hd (a6h.box k3 HX HGN (by decide));replace HK:=Hd (HK.trans k3);replace HW:=Hd h3;replace HN:=Hd (hn3.trans (HN.add (a7c nd.ins)));obtain⟨U1,hU1⟩:∃ U,U0++a7c nd.ins=U:=⟨_,rfl⟩;rw[hU1] at HN;have HU1:=Hd hU1;replace HE0:=Hd (show U1.size≤T.size+1760010 by rw[←hU1,ByteArray.size_append];have:=HE0.out;omega);clear q1 C3 hn3 h3 k3 hU1;have q2:=Joins.cell_of_block HX 2;have C4:=Hd (b9w (c:=cD) H2 HT HW (by have:=HN.le;have:=HE0.out;omega))
 go_wp2_with fail
 refine C4.mono ?_;rintro e4 w4 ⟨rfl,V4,hn4,h4,k4⟩;replace HX:=Hd (a6h.box k4 HX HGN (by decide));replace HK:=Hd (HK.trans k4);replace HW:=Hd h4;replace HN:=Hd (hn4.trans (HN.add (a7c nd.shape)));obtain⟨U2,hU2⟩:∃ U,U1++a7c nd.shape=U:=⟨_,rfl⟩;rw[hU2] at HN;have HU2:=Hd hU2;replace HE0:=Hd (show U2.size≤T.size+3520014 by rw[←hU2,ByteArray.size_append];have:=HE0.out;omega);clear q2 C4 hn4 h4 k4 hU2;have q3:=Joins.cell_of_block HX 3;have C5:=Hd (b9w (c:=ce) H3 HT HW (by have:=HN.le;have:=HE0.out;omega))
 go_wp2_with fail
 refine C5.mono ?_;rintro e5 w5 ⟨rfl,V5,hn5,h5,k5⟩;replace HX:=Hd (a6h.box k5 HX HGN (by decide));replace HK:=Hd (HK.trans k5);replace HW:=Hd h5;replace HN:=Hd (hn5.trans (HN.add (a7c nd.a)));obtain⟨U3,hU3⟩:∃ U,U2++a7c nd.a=U:=⟨_,rfl⟩;rw[hU3] at HN;have HU3:=Hd hU3;replace HE0:=Hd (show U3.size≤T.size+5280018 by rw[←hU3,ByteArray.size_append];have:=HE0.out;omega);clear q3 C5 hn5 h5 k5 hU3;have q4:=Joins.cell_of_block HX 4;have C6:=Hd (a5y HFn (HT.below HW.out.2))
 go_wp2_with fail
 refine C6.mono ?_;rintro e6 w6 ⟨rfl,hb6⟩;replace HX:=Hd ((hb6.block _ (a2y HX)).trans HX);replace HK:=Hd (HK.trans (a9a hb6));replace HW:=Hd (HW.below hb6);clear q4 C6 hb6;have C7:=Hd (a7l (numT nd.n) HW (by have:=HN.le;have:=HE0.out;omega))
 go_wp2_with fail
 refine C7.mono ?_;rintro e7 w7 ⟨rfl,h7,k7⟩;replace HX:=Hd (a6h.box k7 HX HGN (by decide));replace HK:=Hd (HK.trans k7);replace HW:=Hd h7;replace HN:=Hd ((HN.add spT).add (numT nd.n));obtain⟨U4,hU4⟩:∃ U,U3++spT++numT nd.n=U:=⟨_,rfl⟩;rw[hU4] at HN;have HU4:=Hd hU4;replace HE0:=Hd (show U4.size≤T.size+5280040 by rw[←hU4,ByteArray.size_append,ByteArray.size_append];have:=HE0.out;omega);clear C7 h7 k7 hU4;have q5:=Joins.cell_of_block HX 5;have C8:=Hd (a5y HFh (HT.below HW.out.2))
 go_wp2_with fail
 refine C8.mono ?_;rintro e8 w8 ⟨rfl,hb8⟩;replace HX:=Hd ((hb8.block _ (a2y HX)).trans HX);replace HK:=Hd (HK.trans (a9a hb8));replace HW:=Hd (HW.below hb8);clear q5 C8 hb8;have C9:=Hd (a7l (numT nd.how) HW (by have:=HN.le;have:=HE0.out;omega))
 go_wp2_with fail
 refine C9.mono ?_;rintro e9 w9 ⟨rfl,h9,k9⟩;replace HX:=Hd (a6h.box k9 HX HGN (by decide));replace HK:=Hd (HK.trans k9);replace HW:=Hd h9;replace HN:=Hd ((HN.add spT).add (numT nd.how));obtain⟨U5,hU5⟩:∃ U,U4++spT++numT nd.how=U:=⟨_,rfl⟩;rw[hU5] at HN;have HU5:=Hd hU5;replace HE0:=Hd (show U5.size≤T.size+5280062 by rw[←hU5,ByteArray.size_append,ByteArray.size_append];have:=HE0.out;omega);clear C9 h9 k9 hU5;have C10:=Hd (d9o w9 S)
 go_wp2_with fail
 refine C10.mono ?_;rintro e10 w10 ⟨rfl,rfl⟩;clear C10;have C11:=Hd (a7l (orT S) HW (by have:=HN.le;have:=HE0.out;omega))
 go_wp2_with fail
 refine C11.mono ?_;rintro e11 w11 ⟨rfl,h11,k11⟩;replace HK:=Hd (HK.trans k11);replace HW:=Hd h11;replace HN:=Hd ((HN.add spT).add (orT S));clear C11 h11 k11;have C12:=Hd (c4j HW (by have:=HN.le;have:=HE0.out;simp only[ByteArray.size_append] at *;omega))
 go_wp2_with fail
 refine C12.mono ?_;rintro e12 w12 ⟨rfl,h12,k12⟩;replace HK:=Hd (HK.trans k12);replace HW:=Hd h12;replace HN:=Hd (HN.add lfT);clear C12 h12 k12;go_wp2
 go_end0
 refine⟨rfl,_,?_,HW,HK⟩;rw[←HU5.out,←HU4.out,←HU3.out,←HU2.out,←HU1.out,←HU0.out] at HN;exact HN
theorem e5b (s:ByteArray):(⟨#[109,101,115,104]⟩:ByteArray)++spT++orT s=if s=⟨#[]⟩ then c8y else c5t++s:=by
 unfold orT;split <;> rfl
theorem a6m.line {a b:ByteArray}(h:a6m a b)(nm:List Int)(nd:a0l)(s:List Int):a6m (a9z nm a nd s) (a9z nm b nd s) :=
 by unfold a9z;exact((((((((((h.add _).add _).add _).add _).add _).add _).add _).add _).add _).add _).add _
theorem e6s (s:ByteArray):(orT s).size≤s.size+1:=by
 unfold orT;split
 ·show 1≤_;omega
 ·omega
theorem d9p {q:Nat}(h:a1m w v G)(hF:FewG q G)(hT:Tabs w)(hq:q≤80000:=by omega):
  Calls prog 37 #[v] w fun e w'=>e=.returned (.tuple #[.string (a4f G).1,.int .i64 (a4f G).2])∧Below w.heap.size w w':=by
 have HG:=h;obtain⟨A,na,ca,B,nb,cb,C,nc,cc,rfl,hL⟩:=h;replace HG:=Hd HG;have HT:=Hd hT;have HL:=Hd hL;have HF:=Hd hF;have hnb:nb≤80000:=by have:=hF.nodes;have:=hL.inB.1;omega
 have hnc:nc≤80000:=by have:=hF.outs;have:=hL.inC.len;omega
 have hna:na≤80000:=by have:=hF.sizes;have:=hL.inA.len;omega
 have hnm:=hL.names;have h1:=(Sep.nil w).allocBox w.heap.size 28 [.slice A na ca,.string G.names,.slice B nb cb,.slice C nc cc] rfl;clear hL hF hT
 go_enter func37,ntmps37
 go_upto_region 1 with fail
 generalize w.alloc (.cells #[.slice A na ca,.string G.names,.slice B nb cb,.slice C nc cc] 28)=W at *;have H:=Hd h1;clear h1;obtain⟨g0,g1,g2,g3⟩:=H.cells4 0 rfl;obtain⟨⟨e0,L⟩,he⟩:∃ r,a0f G=r:=⟨_,rfl⟩;have C2:=b7k (w:=W) (v:=.agg #[.slice A na ca,.string G.names,.slice B nb cb,.slice C nc cc]) (G:=G) (HG.below H.base) (fun j nd hj=>Nat.le_trans (HF.small j nd hj) hq);rw[he] at C2;have HE:=Hd he;have HC2:=Hd C2;clear C2 he
 go_wp2_with fail
 refine HC2.mono ?_;rintro e2 w2 ⟨⟨A2,m2,c2,rfl,hc2,hL2⟩,hb2⟩;replace H:=Hd (H.below hb2);have HL2:=Hd hL2;clear hb2 hL2 HC2 g0 g1 g2 g3;by_cases hz:e0=0
 ·have dz:(e0 != 0)=false:=by simpa using hz
  subst hz;obtain⟨hgo,hll⟩:=b0p (G:=G) (by rw[HE.out]);rw[HE.out] at hgo hll;have HLL:=Hd (show L.length=nb by have h9:L.length=G.nodes.length:=hll;have:=HL.inB.1;omega);clear hgo hll;have HT2:=Hd (HT.below H.base);have HW:=Hd (Wb.fresh w2);have hb3:Below w2.heap.size w2 (w2.alloc (.cells #[.pointer none,.slice none 0 0] 112)):=(Below.refl _ _).alloc (Nat.le_refl _) _;have H3:=Hd (H.below hb3);have z0:spT.size=1:=rfl;have z1:lfT.size=1:=rfl;have z4:(⟨#[109,101,115,104]⟩:ByteArray).size=4:=rfl;clear hb3
  go_upto_region 5 with fail
  generalize w2.alloc (.cells #[.pointer none,.slice none 0 0] 112)=w3 at *;have CA:=Hd (b6q ⟨#[109,101,115,104]⟩ HW (by show 0+4≤_;omega))
  go_wp2_with fail
  refine CA.mono ?_;rintro e4 w4 ⟨⟨x4,rfl⟩,h4,_⟩;replace HW:=Hd (show Wb w2 w4 ⟨#[109,101,115,104]⟩ by have:=h4;rwa [show(⟨#[]⟩:ByteArray)++⟨#[109,101,115,104]⟩=⟨#[109,101,115,104]⟩ from ByteArray.empty_append] at this);replace H3:=Hd (H.below h4.2);clear h4 CA;have g1:=H3.c 0 1;have CO:=Hd (d9o w4 G.names)
  go_wp2_with fail
  refine CO.mono ?_;rintro e5 w5 ⟨rfl,rfl⟩;have y7:=e6s G.names;have CB:=Hd (a7l (orT G.names) HW (by omega))
  go_wp2_with fail
  refine CB.mono ?_;rintro e6 w6 ⟨rfl,h6,_⟩;rw[e5b] at h6;obtain⟨T0,hT0⟩:∃ T0,(if G.names=⟨#[]⟩ then c8y else c5t++G.names)=T0:=⟨_,rfl⟩
  have hT0s:T0.size≤G.names.size+6:=by
   rw[←hT0];split
   ·show 6≤_;omega
   ·rw[ByteArray.size_append];show 5+_≤_;omega
  rw[hT0] at h6;have HT0:=Hd hT0;replace HW:=Hd h6;replace H3:=Hd (H.below h6.2);clear h6 hT0 CB CO g1 y7;have g0:=H3.c 0 0;have CN:=Hd (b9x (c:=ca) (HL.inA.below H.base) HT2 HW (by omega))
  go_wp2_with fail
  refine CN.mono ?_;rintro e7 w7 ⟨rfl,T1,hn7,h7,_⟩;have HN:=Hd (hn7.add lfT);have HM:=Hd (show a8c G=a3j T0 G.sizes++lfT by rw[a8c,HT0.out]);have hM:(a8c G).size≤17592190000000:=by have:=c1k G;have:=HL.inA.len;omega
  have y1:T1.size+1≤(a8c G).size:=by have:=hn7.le;rw[HM.out,ByteArray.size_append];omega
  have CE:=Hd (c4j h7 (by omega));clear hn7 h7 CN g0
  go_wp2_with fail
  refine CE.mono ?_;rintro e8 w8 ⟨rfl,h8,_⟩;rw[←HM.out] at HN;replace HW:=Hd h8;replace H3:=Hd (H.below h8.2);clear h8 CE y1;obtain⟨T2,hT2⟩:∃ T,T1++lfT=T:=⟨_,rfl⟩;rw[hT2] at HN HW;clear hT2;have g2:=H3.c 0 2
  go_wp2_with fail
  clear g2
  go_loopw [29] (fun iv wr=>∃(k:Nat) (T:ByteArray),iv=.int .i64 k∧k≤nb∧a6m T (a4i (a0a G.names) (a8c G) (G.nodes.take k) (L.take k))∧Wb w2 wr T) (fun iv _=>nb-(intOf iv).toNat)
  case atStart=>exact⟨0,_,rfl,by omega,HN,HW⟩
  case round =>
   clear HN HW H3;obtain⟨k,T,rfl,hk,hnr,hwr⟩:=hrel;have HN:=Hd hnr;have HW:=Hd hwr;have H3:=Hd (H.below hwr.2);have hsz:=b0a HF hq (a0a G.names) (L.take k) k (a8c G);have hTs:=hnr.le;clear hnr hwr;by_cases hlt:k<nb
   ·obtain⟨nd,hnd⟩:∃ nd,G.nodes[k]?=some nd:=gE (by have:=HL.inB.1;omega);obtain⟨s,hs⟩:∃ s,L[k]?=some s:=gE (by have:=HLL.out;omega);obtain⟨la,S,ns,cs,D,nD,cD,E,ne,ce,hla,hlb,c0,c1,c2,c3,c4,c5,c6,hNL⟩:=(HL.inB.below H3.base).2.2 k nd hnd;obtain⟨la', S', ns', cs', D', nD', cD', E', ne', ce', hla', hlb', d0,d1,d2,d3,d4,d5,d6,hNL2⟩:=(HL.inB.below H.base).2.2 k nd hnd;subst hla;obtain⟨hF1,hF2,hF3⟩:=HF.each k nd hnd
    have HN2:Hid (a4r w2 (.agg #[.int .i64 nd.op,.slice S ns cs,.slice D nD cD,.slice E ne ce,.int .i64 nd.n,.int .i64 nd.how,.string nd.note]) nd):=Hd (by
     have hb9:Below w2.heap.size w2 wr:=HW.out.2;injection hla' with hla'
     subst hla';have f1:=Option.some.inj (c1.symm.trans (kC hb9 d1));have f2:=Option.some.inj (c2.symm.trans (kC hb9 d2));have f3:=Option.some.inj (c3.symm.trans (kC hb9 d3));injection f1 with f11 f12 f13
     injection f2 with f21 f22 f23
     injection f3 with f31 f32 f33
     subst f11 f12 f13 f21 f22 f23 f31 f32 f33
     exact⟨_,_,_,_,_,_,_,_,_,rfl,hNL2⟩)
    clear hla' hlb' d0 d1 d2 d3 d4 d5 d6 hNL2;have HST:=Hd (b8c (nm:=a0a G.names) (o:=a8c G) hnd hs);have HNT:=Hd hNL.note;have HS:=Hd hs;have hle1:=hNL.inA.le;have hle2:=hNL.inB.le;have hle3:=hNL.inC.le;clear hNL hnd hs;have h3:=(Sep.nil wr).allocBox wr.heap.size 49 [.int .i64 nd.op,.slice S ns cs,.slice D nD cD,.slice E ne ce,.int .i64 nd.n,.int .i64 nd.how,.string nd.note] rfl;have hb3:Below wr.heap.size wr (wr.alloc (.cells #[.int .i64 nd.op,.slice S ns cs,.slice D nD cD,.slice E ne ce,.int .i64 nd.n,.int .i64 nd.how,.string nd.note] 49)):=(Below.refl _ _).alloc (Nat.le_refl _) _
    have hgn:wr.heap.size≠w2.heap.size:=by
     have:=a2y (show ∃ o,wr.heap[w2.heap.size]?=some o from by
      rcases HW.out.1 with h|h
      ·exact⟨_,h.2.choose_spec.1⟩
      ·exact⟨_,h.2.choose_spec.1⟩).choose_spec
     omega
    have g2:=H3.c 0 2
    go_upto_region 12 with fail
    generalize wr.alloc (.cells #[.int .i64 nd.op,.slice S ns cs,.slice D nD cD,.slice E ne ce,.int .i64 nd.n,.int .i64 nd.how,.string nd.note] 49)=wz at *;replace HW:=Hd (HW.below (hb3.trans (a1h (Below.refl _ _) 1)));replace H3:=Hd (H3.below hb3);obtain⟨a2,B9,m9,c9,hA2,hab2,ck,hmc9,hI9⟩:=(HL2.below ((show Below w2.heap.size w2 wz.drew from HW.out.2))).2.2 k s HS;subst hA2
    have HCK:Hid (w2.cell? (a2.add k)=some (.slice B9 m9 c9)):=Hd (by
     obtain⟨a3,B3,m3,c3,hA3,_,ck3,_,_⟩:=HL2.out.2.2 k s HS;injection hA3 with hA3
     subst hA3;have:=(kC (show Below w2.heap.size w2 wz.drew from HW.out.2) ck3).symm.trans ck
     rw[ck3];exact this)
    have hS9:s.length=m9:=hI9.len;have hkm:k<m2:=by have h8:=HL2.out.1;have h9:=HLL.out;omega
    generalize wr.heap.size=gn at *;have HZ:=Hd h3;have HGN:=Hd hgn;have HI9:=Hd hS9;clear h3 hb3 hgn c0 c1 c2 c3 c4 c5 c6 g2 hI9 hS9;obtain⟨n0,n1,n2,n3,n4,n5,n6⟩:=HZ.cells7 0 rfl;have g1:=H3.c 0 1;have HBX:=Hd (HZ.at_ 0 rfl).2;have HCN:=Hd (fun w:World=>d9m (w:=w) (m9:Int) hnm HNT);refine wp_region_held_drew (S:=(fun w'=>w'.cell? ⟨gn,0,none⟩=some (.int .i64 nd.op)∧w'.cell? ⟨gn,1,none⟩=some (.slice S ns cs)∧w'.cell? ⟨gn,2,none⟩=some (.slice D nD cD)∧w'.cell? ⟨gn,3,none⟩=some (.slice E ne ce)∧w'.cell? ⟨gn,4,none⟩=some (.int .i64 nd.n)∧w'.cell? ⟨gn,5,none⟩=some (.int .i64 nd.how)∧w'.cell? ⟨gn,6,none⟩=some (.string nd.note)∧w'.cell? ⟨w.heap.size,1,none⟩=some (.string G.names)∧w'.cell? (a2.add k)=some (.slice B9 m9 c9))) (by kernel_rfl) ?_ (fun hq_=>?_)
    ·exact⟨n0,n1,n2,n3,n4,n5,n6,g1,ck⟩
    refine zV 0 hq_ ?_;refine zV 1 hq_ ?_;refine zV 2 hq_ ?_;refine zV 3 hq_ ?_;refine zV 4 hq_ ?_;refine zV 5 hq_ ?_;refine zV 6 hq_ ?_;refine zV 7 hq_ ?_;refine zV 8 hq_ ?_;refine zV 9 hq_ ?_;refine e1 10 fun K hK=>?_
    first|(refine effU ?_ ?_;(focus rfl))|(go_simp;(go_at_call 72;refine(HCN _).mono ?_;rintro e7 w7 ⟨⟨S7,rfl,hS7,hz7⟩,hb7⟩;have HS7:=Hd hS7;have HZ7:=Hd hz7;have HW7:=Hd (HW.below hb7);have HB7:=Hd ((hb7.block gn (a2y HBX)).trans HBX);have m0:=Joins.cell_of_block HB7 0;have m1:=Joins.cell_of_block HB7 1;have m2x:=Joins.cell_of_block HB7 2;have m3:=Joins.cell_of_block HB7 3;have m4:=Joins.cell_of_block HB7 4;have m5:=Joins.cell_of_block HB7 5;have m6:=Joins.cell_of_block HB7 6;have mg:=kC hb7 (show wz.drew.cell? ⟨w.heap.size,1,none⟩=some (.string G.names) from g1);have mk:=kC hb7 ck;clear hS7 hz7 hb7);go_wp2_with fail)
    refine zX hK (fun hq_=>?_) ⟨m0,m1,m2x,m3,m4,m5,m6,mg,mk⟩;refine e1 11 fun K hK=>?_
    first|(refine effU ?_ ?_;(focus rfl))|(go_simp;(go_at_call 71;refine(d9l (nd:=nd) HN2 HT2 HW7 HZ7 (by omega) (by omega) (by omega) (by omega)).mono ?_;rintro e8 w8 ⟨rfl,T8,hn8,hw8,hk8⟩;have HN8:=Hd hn8;have HW8:=Hd hw8;have HB8:=Hd (a6h.box hk8 HB7 HGN (by decide));clear hn8 hw8 hk8);go_wp2_with fail)
    refine zX hK (fun hq_=>?_) ⟨Joins.cell_of_block HB8 0,Joins.cell_of_block HB8 1,Joins.cell_of_block HB8 2,Joins.cell_of_block HB8 3,Joins.cell_of_block HB8 4,Joins.cell_of_block HB8 5,Joins.cell_of_block HB8 6,(H.below HW8.out.2).c 0 1,kC HW8.out.2 HCK⟩;refine dN ?_;go_wp2;go_roundw
    case rel =>
     refine⟨k+1,T8,by go_num,by omega,?_,HW8⟩;rw[HST.out];refine HN8.trans ?_;rw[HS7.out,←HI9.out,e1a];exact HN.line _ _ _
    case measure=>simp[intOf];omega
   ·have hkn:nb=k:=by omega
    subst hkn;have hz9:G.nodes.take nb=G.nodes:=List.take_of_length_le (by have:=HL.inB.1;omega);have hz8:L.take nb=L:=List.take_of_length_le (by have:=HLL.out;omega);rw[hz9,hz8] at HN hsz hTs;clear hz9 hz8;have g3:=H3.c 0 3;have CA:=Hd (b6q ⟨#[111,117,116,115]⟩ HW (by show _+4≤_;omega));replace HN:=Hd (HN.add a9p);clear g3
    go_wp2_with fail
    refine CA.mono ?_;rintro e4 w4 ⟨⟨x4,rfl⟩,h4,_⟩;replace HW:=Hd h4;replace H3:=Hd (H.below h4.2);clear h4 CA;obtain⟨T3,hT3⟩:∃ T3,T++(⟨#[111,117,116,115]⟩:ByteArray)=T3:=⟨_,rfl⟩;have hT3s:T3.size=T.size+4:=by rw[←hT3,ByteArray.size_append];rfl
    rw[show T++a9p=T3 from hT3] at HN;rw[hT3] at HW;clear hT3;have g3:=H3.c 0 3;have CN:=Hd (b9x (c:=cc) (HL.inC.below H.base) HT2 HW (by omega))
    go_wp2_with fail
    refine CN.mono ?_;rintro e7 w7 ⟨rfl,T4,hn7,h7,_⟩
    have y4:T4.size≤T3.size+22*nc:=by
     have a:=hn7.le;have b:=a6t G.outs T3;have:=HL.inC.len;omega
    have CE:=Hd (c4j h7 (by omega));replace HN:=Hd (show a6m (T4++lfT) (a3f G L) from(hn7.trans (HN.nums G.outs)).add lfT);clear hn7 h7 CN g3
    go_wp2_with fail
    refine CE.mono ?_;rintro e8 w8 ⟨rfl,h8,_⟩;replace HW:=Hd h8;clear h8 CE y4;obtain⟨T5,hT5⟩:∃ T,T4++lfT=T:=⟨_,rfl⟩;rw[hT5] at HN HW;clear hT5;have CL:=Hd (d1z HW)
    go_wp2_with fail
    refine CL.mono ?_;rintro e9 w9 ⟨rfl,rfl⟩;by_cases hbig:65536<T5.size
    ·have dbig:decide ((65536:Int)<(T5.size:Int))=true:=decide_eq_true (by omega);have HX:=Hd (show a4f G=(⟨#[]⟩,3) from a6u (by rw[HE.out]) (by rw[HE.out];show 65536<(a3f G L).size;have:=HN.le;omega));go_wp2;go_ret2;exact⟨by rw[HX.out];rfl,a1c H.base HW.out.2⟩
    ·have dbig:decide ((65536:Int)<(T5.size:Int))=false:=decide_eq_false (by omega)
     have HEQ:=Hd (show T5=a3f G L from by
      rcases HN with h|⟨h,_⟩
      ·exact h
      ·omega)
     have HX:=Hd (show a4f G=(T5,0) by rw[a9i (by rw[HE.out]) (by rw[HE.out];show ¬ 65536<(a3f G L).size;rw[←HEQ.out];exact hbig),HE.out];show(a3f G L,(0:Int))=_;rw[HEQ.out]);have CS:=Hd (c9z HW)
     go_wp2_with fail
     refine CS.mono ?_;rintro e10 w10 ⟨rfl,hb10⟩;have HB10:=Hd hb10;clear hb10;go_wp2;go_ret2;exact⟨by rw[HX.out];rfl,a1c H.base HB10⟩
 ·have dz:(e0 != 0)=true:=by simpa using hz
  have HX:=Hd (show a4f G=(⟨#[]⟩,e0) by rw[b0s (by rw[HE.out];exact hz),HE.out]);clear hz;go_wp2;go_ret2;exact⟨by rw[HX.out];rfl,H.base⟩
end Go.Proofs.YtdcmanhgekjhgaaGreatDoor
