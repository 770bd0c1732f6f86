import Derived.Test.YtjblengklgkgfaaGreatPar
import Derived.Test.YtjblengklgkgfaaGreatPat
set_option maxRecDepth 100000
set_option maxHeartbeats 12800000
namespace Go.Proofs.YtjblengklgkgfaaGreat
open Go.RowKit Go.Proofs.Tryz
variable {G:a3n} {L P:TL} {N:List a0s} {acc:List (List Int)} {ax j n:Nat} {e x:Int} {l nm s:List Int} {nd:a0s} {v:Value} {w:World}
def b6r (acc:List (List Int)) (l:List Int):Bool:=l.all fun k=>decide (0≤k)&&decide (k<acc.length)
def a2w (acc:List (List Int)) (l:List Int):List (List Int):=l.map fun k=>acc.getD k.toNat []
noncomputable def b5r (nm:List Int) (nd:a0s) (r:Nat):Int:=(b0e nm (a0k nd.note) (r:Int)).2.2
noncomputable def a0i (nm:List Int) (acc:List (List Int)):List a0s→Int × List (List Int)
 | []=>(0,acc)
 | nd::l=>if b6r acc nd.ins=true then
   (if (a1j nd (a2w acc nd.ins)).1=0 then
    (if b5r nm nd (a1j nd (a2w acc nd.ins)).2.length=0 then a0i nm (acc++[(a1j nd (a2w acc nd.ins)).2]) l
    else(b5r nm nd (a1j nd (a2w acc nd.ins)).2.length,[]))
   else((a1j nd (a2w acc nd.ins)).1,[]))
  else(23,[])
noncomputable def a2f (G:a3n):Int × List (List Int) :=
 if a8n G=true then
  (if G.nodes.length≤48∧G.outs.length≤48 then
   (if (a0i (a0k G.names) [] G.nodes).1=0 then
    (if (G.outs.all fun k=>decide (0≤k)&&decide (k<G.nodes.length))=true then(0,(a0i (a0k G.names) [] G.nodes).2) else(23,[]))
   else((a0i (a0k G.names) [] G.nodes).1,[]))
  else(3,[]))
 else(15,[])
def a7y (q:Nat) (G:a3n):Prop:=∀(j:Nat) (nd:a0s),G.nodes[j]?=some nd→nd.ins.length≤q
theorem b9v (h:l[j]?=some x)(hx:¬(0≤x∧x<acc.length)):b6r acc l=false:=by
 rw[b6r,List.all_eq_false];exact⟨x,mG h,by simpa using fun h0=>by have:=hx;omega⟩
theorem a8z (h:∀(i:Nat) (x:Int),l[i]?=some x→0≤x∧x<acc.length):b6r acc l=true:=by
 rw[b6r,List.all_eq_true];intro x hx;obtain⟨i,hi,e⟩:=List.getElem_of_mem hx;have:=h i x (by rw[List.getElem?_eq_getElem hi,e]);simpa using this
theorem b6y (h:l[j]?=some x)(hx:¬(0≤x∧x<n)):(l.all fun k=>decide (0≤k)&&decide (k<n))=false:=by
 rw[List.all_eq_false];exact⟨x,mG h,by simpa using fun h0=>by have:=hx;omega⟩
theorem b1i (h:∀(i:Nat) (x:Int),l[i]?=some x→0≤x∧x<n):(l.all fun k=>decide (0≤k)&&decide (k<n))=true:=by
 rw[List.all_eq_true];intro x hx;obtain⟨i,hi,e⟩:=List.getElem_of_mem hx;have:=h i x (by rw[List.getElem?_eq_getElem hi,e]);simpa using this
theorem b1j (h:a8n G=false):a2f G=(15,[]):=by rw[a2f,h];rfl
theorem a8e (h:a8n G=true)(hl:¬(G.nodes.length≤48∧G.outs.length≤48)):a2f G=(3,[]):=by rw[a2f,iP h,iN hl]
theorem a8p (h:a8n G=true)(hl:G.nodes.length≤48∧G.outs.length≤48){l:List (List Int)}(hg:a0i (a0k G.names) [] G.nodes=(e,l))(he:¬ e=0):a2f G=(e,[]):=by
 rw[a2f,iP h,iP hl,hg,iN he]
theorem a6j (h:a8n G=true)(hl:G.nodes.length≤48∧G.outs.length≤48){l:List (List Int)}(hg:a0i (a0k G.names) [] G.nodes=(0,l)):a2f G=if (G.outs.all fun k=>decide (0≤k)&&decide (k<G.nodes.length))=true then(0,l) else(23,[]):=by
 rw[a2f,iP h,iP hl,hg,iP rfl]
theorem a3t (w:World):Lils w none 0 []:=⟨rfl,by omega,fun j t ht=>by simp at ht⟩
theorem b8o (h:a2c w v G)(hs:a7y 800 G):
  Calls prog 87 #[v] w fun e w'=>(∃ A m c,e=.returned (.tuple #[.slice A m c,.int .i64 (a2f G).1])∧m≤c∧Lils w' A m (a2f G).2)∧Below w.heap.size w w':=by
 have HG:=h;obtain⟨A,na,ca,B,nb,cb,C,nc,cc,rfl,hL⟩:=h;replace HG:=Hd HG;obtain⟨hia,hib,hic,hA,hB,hC,hnm⟩:=hL;have h1:=(((Sep.nil w).old hC).old hA).allocBox w.heap.size 25 [.slice A na ca,.string G.names,.slice B nb cb,.slice C nc cc] rfl;have hal:=hA.le;have hcl:=hC.le;have HAL:=Hd hA.len;have HCL:=Hd hC.len;have HBL:=Hd hB.1;have hbl:=hB.2.1;have HB:=Hd hB;clear hA hC hB
 go_enter func87,ntmps87
 go_upto_region 1 with fail
 generalize w.alloc (.cells #[.slice A na ca,.string G.names,.slice B nb cb,.slice C nc cc] 25)=W at *;have H:=Hd h1;clear h1;have hsm:=hs;have HSM:=Hd hsm;clear hsm hs;obtain⟨g0,g1,g2,g3⟩:=H.cells4 0 rfl;have CM:=c3q (HG.below H.base)
 cases hm:a8n G with
 | false =>
  rw[hm] at CM;have HX:=Hd (b1j hm)
  go_wp2_with fail
  refine CM.mono ?_;rintro e2 w2 ⟨rfl,hb⟩;replace H:=Hd (H.below hb);clear CM hm hb g0 g1 g2 g3;go_wp2;go_ret2;rw[HX.out]
  exact⟨⟨none,0,0,rfl,Nat.le_refl _,a3t _⟩,H.base⟩
 | true =>
  rw[hm] at CM;have HM:=Hd hm
  go_wp2_with fail
  refine CM.mono ?_;rintro e2 w2 ⟨rfl,hb⟩;replace H:=Hd (H.below hb);clear CM hm hb g0 g1 g2 g3;obtain⟨g0,g1,g2,g3⟩:=H.cells4 0 rfl;by_cases l1:48<nb
  ·have e1:decide (48<nb)=true:=by simpa using l1
   have HX:=Hd (a8e HM (by have:=HBL.out;have:=HCL.out;omega));go_wp2;go_ret2;rw[HX.out];exact⟨⟨none,0,0,rfl,Nat.le_refl _,a3t _⟩,H.base⟩
  have e1:decide (48<nb)=false:=by simpa using l1
  by_cases l2:48<nc
  ·have e2:decide (48<nc)=true:=by simpa using l2
   have HX:=Hd (a8e HM (by have:=HBL.out;have:=HCL.out;omega));go_wp2;go_ret2;rw[HX.out];exact⟨⟨none,0,0,rfl,Nat.le_refl _,a3t _⟩,H.base⟩
  have e2:decide (48<nc)=false:=by simpa using l2
  have hl48:=Hd (show G.nodes.length≤48∧G.outs.length≤48 by have:=HBL.out;have:=HCL.out;omega);have hnb48:nb≤48:=by omega
  have hnc48:nc≤48:=by omega
  obtain⟨nm,hnmr⟩:∃ nm,a0k G.names=nm:=⟨_,rfl⟩;have HNM:=Hd hnmr;clear hnmr;replace H:=Hd (H.addRowNil 22 1)
  go_wp2_with fail
  clear e1 e2 l1 l2 g0 g1 g2 g3
  go_loopw [33,4] (fun iv ov wr=>∃(j:Nat) (us:List Value) (pool:List a0c) (lx:Value) (acc:List (List Int)),lx=ov∧iv=.int .i64 j∧j≤nb∧acc.length=j∧a9o us acc pool∧a0i nm acc (G.nodes.drop j)=a0i nm [] G.nodes∧Sep w wr (.row 22 1 lx j us::.box w.heap.size 25 [.slice A na ca,.string G.names,.slice B nb cb,.slice C nc cc]::.ints A na G.sizes::.ints C nc G.outs::pool)) (fun iv _ _=>nb-(intOf iv).toNat)
  case atStart=>exact⟨0,[],[],_,[],rfl,rfl,by omega,rfl,b1e,rfl,H⟩
  case round =>
   clear H;obtain⟨j,us,pool,lx,acc,rfl,rfl,hj,hacc,hP,hgo,hS⟩:=hrel;have H:=Hd hS;have HP:=Hd hP;have HGO:=Hd hgo;have HACC:=Hd hacc;clear hS hP hgo hacc;obtain⟨g0,g1,g2,g3⟩:=H.cells4 1 rfl;by_cases hlt:j<nb
   ·obtain⟨nd,hnd⟩:∃ nd,G.nodes[j]?=some nd:=gE (by have:=HBL.out;omega);obtain⟨la,S,ns,cs,D,nD,cD,E,ne,ce,hla,hlb,k0,k1,k2,k3,k4,k5,k6,hNL⟩:=HB.out.2.2 j nd hnd;subst hla;obtain⟨c0,c1,c2,c3,c4,c5,c6⟩:=old7 H hlb k0 k1 k2 k3 k4 k5 k6;have HGD:=Hd (show a0i nm acc (nd::G.nodes.drop (j+1))=a0i nm [] G.nodes by rw[←a7x hnd];exact HGO);have hns:ns≤800:=by have h5:=HSM.out j nd hnd;have h6:=hNL.inA.len;omega
    have HNL:=Hd hNL;have HSL:=Hd hNL.inA.len;have hnsl:=hNL.inA.le;clear k0 k1 k2 k3 k4 k5 k6 hNL hnd;have h3:=H.allocBox wr.heap.size 38 [.int .i64 nd.op,.slice S ns cs,.slice D nD cD,.slice E ne ce,.int .i64 nd.n,.int .i64 nd.how,.string nd.note] rfl
    go_upto_region 9 with fail
    generalize wr.alloc (.cells #[.int .i64 nd.op,.slice S ns cs,.slice D nD cD,.slice E ne ce,.int .i64 nd.n,.int .i64 nd.how,.string nd.note] 38)=w3 at *;generalize wr.heap.size=gn at *;have h4:=h3.addRowNil 22 1;replace H:=Hd h4;clear h3 h4 c0 c1 c2 c3 c4 c5 c6 g0 g1 g2 g3;obtain⟨n0,n1,n2,n3,n4,n5,n6⟩:=H.cells7 1 rfl
    go_wp2_with fail
    clear n0 n1 n2 n3 n4 n5 n6
    go_loopw [41,7] (fun iv ov wr=>∃(q:Nat) (us2:List Value) (lx2:Value),lx2=ov∧iv=.int .i64 q∧q≤ns∧(∀(i:Nat) (x:Int),nd.ins[i]?=some x→i<q→0≤x∧x<j)∧a9o us2 (a2w acc (nd.ins.take q)) pool∧Sep w wr (.row 22 1 lx2 q us2::.box gn 38 [.int .i64 nd.op,.slice S ns cs,.slice D nD cD,.slice E ne ce,.int .i64 nd.n,.int .i64 nd.how,.string nd.note]::.row 22 1 lx j us::.box w.heap.size 25 [.slice A na ca,.string G.names,.slice (some la) nb cb,.slice C nc cc]::.ints A na G.sizes::.ints C nc G.outs::pool)) (fun iv _ _=>ns-(intOf iv).toNat)
    case atStart=>exact⟨0,[],_,rfl,rfl,by omega,by omega,b1e,H⟩
    case round =>
     clear H;obtain⟨q,us2,lx2,rfl,rfl,hq,hAll,hP2,hS⟩:=hrel;have H:=Hd hS;have HP2:=Hd hP2;have HA:=Hd hAll;clear hS hP2 hAll;by_cases hlq:q<ns
     ·obtain⟨sa,x,hsA,_,hx,hcx,_⟩:=(H.oldI HNL.inA).at_ (k:=q) hlq;subst hsA;by_cases h1:x<0
      ·have d1:decide (x<0)=true:=by simpa using h1
       have HX:=Hd (a8p HM hl48 (by rw[HNM.out,←HGD.out,a0i,b9v hx (by have:=HACC.out;omega)];rfl) (by decide:¬(23:Int)=0));clear hx;go_wp2;go_ret2;rw[HX.out];exact⟨⟨none,0,0,rfl,Nat.le_refl _,a3t _⟩,H.base⟩
      obtain⟨xx,rfl⟩:=eZ (by omega:0≤x);have d1:decide ((xx:Int)<0)=false:=by simp
      by_cases h2:j≤xx
      ·have d2:decide (j≤xx)=true:=by simpa using h2
       have HX:=Hd (a8p HM hl48 (by rw[HNM.out,←HGD.out,a0i,b9v hx (by have:=HACC.out;omega)];rfl) (by decide:¬(23:Int)=0));clear hx;go_wp2;go_ret2;rw[HX.out];exact⟨⟨none,0,0,rfl,Nat.le_refl _,a3t _⟩,H.base⟩
      have d2:decide (j≤xx)=false:=by simpa using h2
      obtain⟨s,hs⟩:∃ s,acc[xx]?=some s:=gE (by have:=HACC.out;omega);obtain⟨S5,n5,c5,p5,hu5,hp5⟩:=HP.out.2 xx s hs;obtain⟨go,co,hv,hco⟩:=H.rowForm 2 rfl (by omega);subst hv;have hcu:=b7r H 2 rfl hu5 (by omega:xx<j);rw[a3j] at hcu;have hb5:xx<j:=by omega
      have hb6:(xx:Int)<j:=by omega
      have HQ2:=Hd (show a9o (us2++[.slice S5 n5 c5]) (a2w acc (nd.ins.take (q+1))) pool by
       have he:a2w acc (nd.ins.take (q+1))=a2w acc (nd.ins.take q)++[s]:=by
        rw[List.take_add_one,hx,a2w,a2w,List.map_append];simp[List.getD_eq_getElem?_getD,hs]
       rw[he];exact HP2.snoc hp5)
      have HXX:=Hd hx;clear hx hs hu5 hp5
      go_wp2_with (at_builtin;refine a2t rfl (.tmp 52) (.tmp 57) 35 rfl underlying35 H.out 0 rfl rfl _ rfl ?c1 ?_)
      case c1=>omega
      intro v9 w9 h9;have H9:=Hd h9;clear h9 hcu hcx;go_wp2;go_roundw
      case rel=>exact⟨q+1,us2++[Value.slice S5 n5 c5],_,rfl,by go_num,by omega,fun i y hi hi2=>by
       rcases Nat.lt_or_ge i q with hij|hij
       ·exact HA i y hi hij
       ·obtain rfl:i=q:=by omega
        have h9:=HXX.out
        rw[hi] at h9;injection h9 with h9;omega,HQ2,H9⟩
      case measure=>simp[intOf];omega
     ·obtain rfl:q=ns:=by omega
      have HIN:=Hd (show b6r acc nd.ins=true from a8z fun i x hi=>by rw[HACC.out];exact HA i x hi (by have:=HSL.out;have:=(lL hi);omega));have hP3:=HP2.out;rw[List.take_of_length_le (by have:=HSL.out;omega)] at hP3;obtain⟨Al,cl,hv,hcl,hLi⟩:=a8q 0 H rfl hP3 (by rw[a2w,List.length_map];exact HSL) (by omega) 6 (fun i=>rfl);subst hv;clear hP3;have CS:=a6k (cl:=cl) (a3k.wide (show a3k _ (.agg #[.int .i64 nd.op,.slice S q cs,.slice D nD cD,.slice E ne ce,.int .i64 nd.n,.int .i64 nd.how,.string nd.note]) nd from⟨S,q,cs,D,nD,cD,E,ne,ce,rfl,HNL.below H.base⟩)) hLi;obtain⟨⟨e5,s5⟩,hR⟩:∃ r,a1j nd (a2w acc nd.ins)=r:=⟨_,rfl⟩;rw[hR] at CS;have HR:=Hd hR;clear hLi hR;obtain⟨n0,n1,n2,n3,n4,n5,n6⟩:=H.cells7 1 rfl
      go_wp2_with fail
      refine CS.mono ?_;rintro e4 w4 ⟨⟨v5,m5,rfl,hO⟩,hb4⟩;clear CS n0 n1 n2 n3 n4 n5 n6;replace hO:OwnS w4 _ 3 v5 m5 s5:=hO;obtain⟨A5,c5,rfl,hmc5,_,_⟩:=hO.form;have HML:=Hd hO.len;replace H:=Hd (H.addOwn hb4 hO);clear hO hb4;by_cases he:e5=0
      ·subst he;obtain⟨n0,n1,n2,n3,n4,n5,n6⟩:=H.cells7 2 rfl;obtain⟨g0,g1,g2,g3⟩:=H.cells4 4 rfl;have CN:=c4v (w:=w4) (m5:Int) hnm HNL.note;rw[HNM.out] at CN;obtain⟨e6,hE⟩:∃ e6,b5r nm nd m5=e6:=⟨_,rfl⟩;have HE6:=Hd hE;unfold b5r at hE;rw[hE] at CN;clear hE
       go_wp2_with fail
       refine CN.mono ?_;rintro e8 w8 ⟨⟨v8,m8,rfl,_⟩,hb8⟩;replace H:=Hd (H.below hb8);clear CN hb8 n0 n1 n2 n3 n4 n5 n6 g0 g1 g2 g3;by_cases he6:e6=0
       ·subst he6;have HG2:=Hd (show a0i nm (acc++[s5]) (G.nodes.drop (j+1))=a0i nm [] G.nodes by have h7:=HGD.out;rw[a0i,iP HIN.out,HR.out,iP rfl,HML.out,HE6.out,iP rfl] at h7;exact h7)
        go_wp2_with (at_builtin;refine a2t rfl (.tmp 83) (.tmp 85) 35 rfl underlying35 H.out 3 rfl rfl _ rfl ?c1 ?_)
        case c1=>omega
        intro v9 w9 h9;have h10:=Sep.tail_ (Sep.tail_ (Sep.perm h9 (l':=[_,_,.row 22 1 v9 (j+1) (us++[.slice A5 m5 c5]),.box w.heap.size 25 [.slice A na ca,.string G.names,.slice (some la) nb cb,.slice C nc cc],.ints A na G.sizes,.ints C nc G.outs]++([a0c.own 3 (.slice A5 m5 c5) m5 s5]++pool)) (by rw[←List.append_assoc];exact(List.perm_append_comm (l₁:=[a0c.own 3 (.slice A5 m5 c5) m5 s5]) (l₂:=[_,_,_,_,_,_])).append_right pool)));have H10:=Hd h10;clear h9 h10;go_wp2;go_roundw
        case rel=>exact⟨j+1,us++[Value.slice A5 m5 c5],a0c.own 3 (.slice A5 m5 c5) m5 s5::pool,_,acc++[s5],rfl,by go_num,by omega,by rw[List.length_append,List.length_singleton,HACC.out],HP.more,HG2,H10⟩
        case measure=>simp[intOf];omega
       ·have dE:(e6 != 0)=true:=by simpa using he6
        have HX:=Hd (a8p HM hl48 (by rw[HNM.out,←HGD.out,a0i,iP HIN.out,HR.out,iP rfl,HML.out,HE6.out,iN he6]) he6);clear he6;go_wp2;go_ret2;rw[HX.out];exact⟨⟨none,0,0,rfl,Nat.le_refl _,a3t _⟩,H.base⟩
      ·have dE:(e5 != 0)=true:=by simpa using he
       have HX:=Hd (a8p HM hl48 (by rw[HNM.out,←HGD.out,a0i,iP HIN.out,HR.out,iN he]) he);clear he;go_wp2;go_ret2;rw[HX.out];exact⟨⟨none,0,0,rfl,Nat.le_refl _,a3t _⟩,H.base⟩
   ·obtain rfl:j=nb:=by omega
    have HEND:=Hd (show a0i nm [] G.nodes=(0,acc) by rw[←HGO.out,List.drop_eq_nil_of_le (by have:=HBL.out;omega),a0i]);have HXE:=Hd (a6j HM hl48 (by rw[HNM.out];exact HEND))
    go_wp2_with fail
    clear g0 g1 g2 g3
    go_loopw [91] (fun iv wr=>∃ q:Nat,iv=.int .i64 q∧q≤nc∧(∀(i:Nat) (x:Int),G.outs[i]?=some x→i<q→0≤x∧x<j)∧Sep w wr (.row 22 1 lx j us::.box w.heap.size 25 [.slice A na ca,.string G.names,.slice B j cb,.slice C nc cc]::.ints A na G.sizes::.ints C nc G.outs::pool)) (fun iv _=>nc-(intOf iv).toNat)
    case atStart=>exact⟨0,rfl,by omega,by omega,H⟩
    case round =>
     clear H;obtain⟨q,rfl,hq,hAll,hS⟩:=hrel;have H:=Hd hS;have HA:=Hd hAll;clear hS hAll;obtain⟨g0,g1,g2,g3⟩:=H.cells4 1 rfl;by_cases hlq:q<nc
     ·obtain⟨sa,x,hsA,_,hx,hcx,_⟩:=(H.oldInts 3 rfl).at_ (k:=q) hlq;subst hsA;by_cases h1:x<0
      ·have d1:decide (x<0)=true:=by simpa using h1
       have HX:=Hd (HXE.trans (by rw[b6y hx (by have:=HBL.out;omega)];rfl:_=((23:Int),([]:List (List Int)))));clear hx;go_wp2;go_ret2;rw[HX.out];exact⟨⟨none,0,0,rfl,Nat.le_refl _,a3t _⟩,H.base⟩
      obtain⟨xx,rfl⟩:=eZ (by omega:0≤x);have d1:decide ((xx:Int)<0)=false:=by simp
      by_cases h2:j≤xx
      ·have d2:decide (j≤xx)=true:=by simpa using h2
       have HX:=Hd (HXE.trans (by rw[b6y hx (by have:=HBL.out;omega)];rfl:_=((23:Int),([]:List (List Int)))));clear hx;go_wp2;go_ret2;rw[HX.out];exact⟨⟨none,0,0,rfl,Nat.le_refl _,a3t _⟩,H.base⟩
      have d2:decide (j≤xx)=false:=by simpa using h2
      have HXX:=Hd hx;clear hx;go_wp2;go_roundw
      case rel=>exact⟨q+1,by go_num,by omega,fun i y hi hi2=>by
       rcases Nat.lt_or_ge i q with hij|hij
       ·exact HA i y hi hij
       ·obtain rfl:i=q:=by omega
        have h9:=HXX.out
        rw[hi] at h9;injection h9 with h9;omega,H⟩
      case measure=>simp[intOf];omega
     ·obtain rfl:q=nc:=by omega
      have HX:=Hd (HXE.trans (iP (b1i fun i x hi=>by rw[HBL.out];exact HA i x hi (by have:=HCL.out;have:=(lL hi);omega))));obtain⟨Al,cl,hv,hcl2,hLi⟩:=a8q 0 H rfl HP HACC (by omega) 4 (fun i=>rfl);subst hv;have HLI:=Hd hLi;clear hLi;go_wp2;go_ret2;rw[HX.out];exact⟨⟨Al,_,cl,rfl,hcl2,HLI⟩,H.base⟩
theorem c0f (h:a2c w v G)(hs:a7y 800 G):
  Calls prog 49 #[v] w fun e w'=>e=.returned (.int .i64 (a2f G).1)∧Below w.heap.size w w':=by
 have HG:=h;obtain⟨A,na,ca,B,nb,cb,C,nc,cc,rfl,hL⟩:=h;replace HG:=Hd HG;obtain⟨hia,hib,hic,hA,hB,hC,hnm⟩:=hL;have h1:=(((Sep.nil w).old hC).old hA).allocBox w.heap.size 25 [.slice A na ca,.string G.names,.slice B nb cb,.slice C nc cc] rfl;have hal:=hA.le;have hcl:=hC.le;have HAL:=Hd hA.len;have HCL:=Hd hC.len;have HBL:=Hd hB.1;have hbl:=hB.2.1;have HB:=Hd hB;clear hA hC hB
 go_enter func49,ntmps49
 go_upto_region 1 with fail
 generalize w.alloc (.cells #[.slice A na ca,.string G.names,.slice B nb cb,.slice C nc cc] 25)=W at *;have H:=Hd h1;clear h1;obtain⟨g0,g1,g2,g3⟩:=H.cells4 0 rfl
 go_wp2_with fail
 refine(b8o (HG.below H.base) hs).mono ?_;rintro e2 w2 ⟨⟨A5,m5,c5,rfl,_,_⟩,hb⟩;replace H:=Hd (H.below hb);clear hb g0 g1 g2 g3;go_wp2;go_ret;exact⟨rfl,H.base⟩
def Full (r:Int × List Int × List Int):Prop:=r.1=0→a0a r.2.1 r.2.2=true
theorem a1x (h:e≠0):Full (refused e):=fun h'=>absurd h' h
theorem a9g {d:List Int}(h:Sh.right s=true)(hd:d.length=(Sh.size s).toNat):a0a s d=true:=by
 have:=Sh.size_bd s;simp only[a0a,h,Bool.true_and,decide_eq_true_eq];omega
theorem d9i (op:Int)(s d:List Int):Full (oneR op s d):=by
 rw[oneR];split
 ·exact a1x (by decide)
 ·split
  ·rename_i h;exact fun _=>b5g h (by simp)
  ·exact a1x (by decide)
theorem d6s (op:Int)(s d t k:List Int):Full (twoR op s d t k):=by
 rw[twoR];split
 ·exact a1x (by decide)
 ·split
  ·rename_i h;simp only[Bool.and_eq_true,beq_iff_eq] at h;obtain⟨h1,h2,rfl⟩:=h;have h3:=c3x h1 h2;exact fun _=>b5g h1 (by simp;omega)
  ·exact a1x (by decide)
theorem d4v (cs cd s d t k:List Int):Full (a7j cs cd s d t k):=by
 rw[a7j];split
 ·rename_i h;simp only[Bool.and_eq_true,beq_iff_eq] at h;obtain⟨h1,⟨h2,rfl⟩,h3,rfl⟩:=h;have h4:=c3x h1 h2;have h5:=c3x h1 h3;exact fun _=>b5g h1 (a8h _ _ _ h4 h5)
 ·exact a1x (by decide)
theorem d4r (s d a:List Int):Full (a6y s d a):=by
 rw[a6y];split
 ·rename_i h;split
  ·rename_i g;exact fun _=>a9g (b5h g (a1p h)).1 (by simp only[c7d,a2y])
  ·exact a1x (by decide)
 ·exact a1x (by decide)
theorem e0v (s d o a:List Int):Full (spR s d o a):=by
 rw[spR];split
 ·rename_i h;rw[Bool.and_eq_true] at h;split
  ·exact fun _=>a9g h.2 (by simp only[spD,a2y])
  ·exact a1x (by decide)
 ·exact a1x (by decide)
theorem d7r (s d f z:List Int):Full (cutR s d f z):=by
 rw[cutR];split
 ·rename_i h;split
  ·rename_i g;exact fun _=>d3f (c2r (a1p h) g).1
  ·exact a1x (by decide)
 ·exact a1x (by decide)
theorem d6w (s d f z:List Int)(n:Int):Full (padR s d f z n):=by
 rw[padR];split
 ·split
  ·split
   ·rename_i h;exact fun _=>a9g h (by simp only[padD,a7w,List.length_replicate])
   ·exact a1x (by decide)
  ·exact a1x (by decide)
 ·exact a1x (by decide)
theorem d5e (ax:Int)(l:TL):Full (a6r ax l):=by
 rw[a6r];split
 ·split
  ·split
   ·rename_i h;exact fun _=>a9g h.2 (b3z ..)
   ·exact a1x (by decide)
  ·exact a1x (by decide)
 ·exact a1x (by decide)
theorem d3y (how:Int)(s d a:List Int):Full (a5m how s d a):=by
 rw[a5m];split
 ·split
  ·split
   ·split
    ·rename_i h;exact fun _=>d1q h
    ·exact a1x (by decide)
   ·exact a1x (by decide)
  ·exact a1x (by decide)
 ·exact a1x (by decide)
theorem d6p (s d t k:List Int)(n:Int):Full (dotR s d t k n):=by
 rw[dotR];split
 ·split
  ·rename_i h;obtain⟨m,rfl,hok,hds⟩:=b4v h;intro _
   show a0a (dsR s t m).2 _=true
   rw[hds,Int.toNat_natCast];exact d4y hok
  ·rename_i h;exact a1x h
 ·exact a1x (by decide)
theorem d8p (how:Int)(s d:List Int)(ax wide apart:Int):Full (winR how s d ax wide apart):=by
 rw[winR];split
 ·split
  ·rename_i h;split
   ·rename_i g;rw[a6s] at g;exact fun _=>d5x (a1p h) (by omega)
   ·exact a1x (by decide)
  ·exact a1x (by decide)
 ·exact a1x (by decide)
theorem d2h (nd:a0s)(L:TL):Full (a0r nd L):=by
 unfold a0r;by_cases h:nd.op=2
 ·rw[iP h];by_cases g:Sh.right nd.shape=true
  ·rw[iP g];exact fun _=>a9g g (by simp)
  ·rw[iN g];exact a1x (by decide)
 rw[iN h];clear h;by_cases h:nd.op=3
 ·rw[iP h];by_cases g:Sh.right nd.shape=true
  ·rw[iP g];by_cases k:nd.a.length=1∧0≤nd.a.getD 0 0∧nd.a.getD 0 0<nd.shape.length
   ·rw[iP k];exact fun _=>a9g g (by simp only[Sh.iota_length])
   ·rw[iN k];exact a1x (by decide)
  ·rw[iN g];exact a1x (by decide)
 rw[iN h];clear h;by_cases h:nd.op=4∨nd.op=5
 ·rw[iP h];exact d9i _ _ _
 rw[iN h];clear h;by_cases h:nd.op=12
 ·rw[iP h];exact d4v _ _ _ _ _ _
 rw[iN h];clear h;by_cases h:nd.op=13
 ·rw[iP h];exact d4r _ _ _
 rw[iN h];clear h;by_cases h:nd.op=14
 ·rw[iP h];exact e0v _ _ _ _
 rw[iN h];clear h;by_cases h:nd.op=15
 ·rw[iP h];by_cases g:nd.a.length=2*(L.getD 0 ([],[])).1.length
  ·rw[iP g];exact d7r _ _ _ _
  ·rw[iN g];exact a1x (by decide)
 rw[iN h];clear h;by_cases h:nd.op=16
 ·rw[iP h];by_cases g:nd.a.length=2*(L.getD 0 ([],[])).1.length
  ·rw[iP g];exact d6w _ _ _ _ _
  ·rw[iN g];exact a1x (by decide)
 rw[iN h];clear h;by_cases h:nd.op=17
 ·rw[iP h];by_cases g:nd.a.length=1
  ·rw[iP g];exact d5e _ _
  ·rw[iN g];exact a1x (by decide)
 rw[iN h];clear h;by_cases h:nd.op=18
 ·rw[iP h];exact d3y _ _ _ _
 rw[iN h];clear h;by_cases h:nd.op=19
 ·rw[iP h];by_cases g:nd.a.length=1
  ·rw[iP g];exact d6p _ _ _ _ _
  ·rw[iN g];exact a1x (by decide)
 rw[iN h];clear h;by_cases h:nd.op=20
 ·rw[iP h];by_cases g:nd.a.length=3
  ·rw[iP g];exact d8p _ _ _ _ _ _
  ·rw[iN g];exact a1x (by decide)
 rw[iN h];clear h;exact d6s _ _ _ _ _
def Like (r q:Int × List Int × List Int):Prop:=r.1=q.1∧r.2.1=q.2.1
theorem Like.rfl_ {r:Int × List Int × List Int}:Like r r:=⟨rfl,rfl⟩
theorem a1r {c:Prop}{_:Decidable c}{a b x y:Int × List Int × List Int}(h:Like a x)(g:Like b y):Like (if c then a else b) (if c then x else y):=by
 by_cases hc:c
 ·rw[iP hc,iP hc];exact h
 ·rw[iN hc,iN hc];exact g
section
variable {s d e t k m u p q : List Int}
theorem d7l (op:Int)(h:a0a s d=a0a s e):Like (oneR op s d) (oneR op s e):=by
 rw[oneR,oneR,h];exact a1r .rfl_ (a1r ⟨rfl,rfl⟩ .rfl_)
theorem d8h (op:Int)(h:a0a s d=a0a s e)(g:a0a t k=a0a t m):Like (twoR op s d t k) (twoR op s e t m):=by
 rw[twoR,twoR,h,g];exact a1r .rfl_ (a1r ⟨rfl,rfl⟩ .rfl_)
theorem d3x (h:a0a s d=a0a s e)(g:a0a t k=a0a t m)(f:a0a u p=a0a u q):Like (a7j s d t k u p) (a7j s e t m u q):=by
 rw[a7j,a7j,h,g,f];exact a1r ⟨rfl,rfl⟩ .rfl_
theorem d4d (a:List Int)(h:a0a s d=a0a s e):Like (a6y s d a) (a6y s e a):=by
 rw[a6y,a6y,h];exact a1r (a1r ⟨rfl,rfl⟩ .rfl_) .rfl_
theorem e0g (o a:List Int)(h:a0a s d=a0a s e):Like (spR s d o a) (spR s e o a):=by
 rw[spR,spR,h];exact a1r (a1r ⟨rfl,rfl⟩ .rfl_) .rfl_
theorem d8n (f z:List Int)(h:a0a s d=a0a s e):Like (cutR s d f z) (cutR s e f z):=by
 rw[cutR,cutR,h];exact a1r (a1r ⟨rfl,rfl⟩ .rfl_) .rfl_
theorem d6n (f z:List Int)(n:Int)(h:a0a s d=a0a s e):Like (padR s d f z n) (padR s e f z n):=by
 rw[padR,padR,h];exact a1r (a1r (a1r ⟨rfl,rfl⟩ .rfl_) .rfl_) .rfl_
theorem d3h (how:Int)(a:List Int)(h:a0a s d=a0a s e):Like (a5m how s d a) (a5m how s e a):=by
 rw[a5m,a5m,h];exact a1r (a1r (a1r (a1r ⟨rfl,rfl⟩ .rfl_) .rfl_) .rfl_) .rfl_
theorem d8m (n:Int)(h:a0a s d=a0a s e)(g:a0a t k=a0a t m):Like (dotR s d t k n) (dotR s e t m n):=by
 rw[dotR,dotR,h,g];exact a1r (a1r ⟨rfl,rfl⟩ .rfl_) .rfl_
theorem d9b (how ax wide apart:Int)(h:a0a s d=a0a s e):Like (winR how s d ax wide apart) (winR how s e ax wide apart):=by
 rw[winR,winR,h];exact a1r (a1r (a1r ⟨rfl,rfl⟩ .rfl_) .rfl_) .rfl_
end
theorem b4k (L:TL):a5d L=(L.map (·.1)).getD 0 []:=by cases L <;> rfl
theorem c6z (ax:Nat):∀(L:TL) (a:Int),L.foldl (fun a t=>a+t.1.getD ax 0) a=(L.map (·.1)).foldl (fun a s=>a+s.getD ax 0) a
 | [],a=>rfl
 | t::L,a=>by rw[List.map_cons,List.foldl_cons,List.foldl_cons,c6z ax L]
theorem c5t (ax:Nat)(L M:TL)(h:L.map (·.1)=M.map (·.1)):a2o ax L=a2o ax M:=by
 rw[a2o,a2o,b4k,b4k,h,tot,tot,c6z,c6z,h]
theorem e0h (L M:TL)(h:L.map (·.1)=M.map (·.1))(g:∀ t∈L,b3a s ax t.1):∀ t∈M,b3a s ax t.1:=fun t ht=>by
 have h1:t.1∈L.map (·.1):=by rw[h];exact List.mem_map_of_mem ht
 obtain⟨x,hx,e⟩:=List.mem_map.1 h1;rw[←e];exact g x hx
theorem c1g (L M:TL)(h:L.map (·.1)=M.map (·.1))(g:b0u ax L):b0u ax M :=
 ⟨by rw[b4k,←h,←b4k];exact e0h L M h g.1,by rw[←c5t ax L M h];exact g.2⟩
theorem c9h {ax:Int}(L M:TL)(h:L.map (·.1)=M.map (·.1))(g:axOk ax L):axOk ax M:=by
 obtain⟨t,ht,h1,h2⟩:=g;have h3:(M.map (·.1))[0]?=some t.1:=by rw[←h,List.getElem?_map,ht];rfl
 rw[List.getElem?_map] at h3
 cases hm:M[0]? with
 | none=>rw[hm] at h3;cases h3
 | some u =>
  rw[hm] at h3;injection h3 with h3
  have h4:u.1=t.1:=h3;exact⟨u,hm,h1,by rw[h4];exact h2⟩
theorem d4u (ax:Int)(L M:TL)(h:L.map (·.1)=M.map (·.1))(hL:a1k L)(hM:a1k M):Like (a6r ax L) (a6r ax M):=by
 by_cases g:axOk ax L
 ·have g2:=c9h L M h g;by_cases k:b0u ax.toNat L
  ·rw[b4m hL g k,b4m hM g2 (c1g L M h k)];exact⟨rfl,c5t _ L M h⟩
  ·rw[a3s hL g k,a3s hM g2 (fun k2=>k (c1g M L h.symm k2))];exact .rfl_
 ·rw[a5t hL g,a5t hM (fun g2=>g (c9h M L h.symm g2))];exact .rfl_
theorem a6a (L:TL)(i:Nat):(L.getD i ([],[])).1=(L.map (·.1)).getD i []:=by
 rw[gD,gD,List.getElem?_map]
 cases L[i]? <;> rfl
theorem c2w {M:TL}(h:L.map (·.1)=M.map (·.1))(hL:a1k L)(hM:a1k M)(i:Nat):a0a (M.getD i ([],[])).1 (L.getD i ([],[])).2=a0a (M.getD i ([],[])).1 (M.getD i ([],[])).2:=by
 have hl:L.length=M.length:=by simpa using congrArg List.length h
 have e1:(L.getD i ([],[])).1=(M.getD i ([],[])).1:=by rw[a6a,a6a,h]
 rcases Nat.lt_or_ge i L.length with hi|hi
 ·have h1:a0a (L.getD i ([],[])).1 (L.getD i ([],[])).2=true:=hL _ (by rw[gD,List.getElem?_eq_getElem hi];exact List.getElem_mem hi);have h2:a0a (M.getD i ([],[])).1 (M.getD i ([],[])).2=true:=hM _ (by rw[gD,List.getElem?_eq_getElem (by omega)];exact List.getElem_mem (by omega));rw[h2,←e1,h1]
 ·rw[gD,gD,List.getElem?_eq_none hi,List.getElem?_eq_none (by omega)]
theorem d2e (nd:a0s)(L M:TL)(h:L.map (·.1)=M.map (·.1))(hL:a1k L)(hM:a1k M):Like (a0r nd L) (a0r nd M):=by
 have e0:(L.getD 0 ([],[])).1=(M.getD 0 ([],[])).1:=by rw[a6a,a6a,h]
 have e1:(L.getD 1 ([],[])).1=(M.getD 1 ([],[])).1:=by rw[a6a,a6a,h]
 have e2:(L.getD 2 ([],[])).1=(M.getD 2 ([],[])).1:=by rw[a6a,a6a,h]
 have f0:=c2w h hL hM 0;have f1:=c2w h hL hM 1;have f2:=c2w h hL hM 2;unfold a0r;rw[e0,e1,e2];refine a1r .rfl_ (a1r .rfl_ (a1r (d7l _ f0) (a1r (d3x f0 f1 f2) (a1r (d4d _ f0) (a1r (e0g _ _ f0) (a1r (a1r (d8n _ _ f0) .rfl_) (a1r (a1r (d6n _ _ _ f0) .rfl_) (a1r (a1r (d4u _ L M h hL hM) .rfl_) (a1r (d3h _ _ f0) (a1r (a1r (d8m _ f0 f1) .rfl_) (a1r (a1r (d9b _ _ _ _ f0) .rfl_) (d8h _ f0 f1))))))))))))
theorem d6b (L:TL):((L.map (·.1)).map zeros).map (·.1)=L.map (·.1):=by
 rw[List.map_map,List.map_map];rfl
theorem d3q (hL:a1k L):a1k ((L.map (·.1)).map zeros):=fun t ht=>by
 obtain⟨s,hs,rfl⟩:=List.mem_map.1 ht;obtain⟨x,hx,rfl⟩:=List.mem_map.1 hs;exact a1h (a1p (hL x hx))
theorem d1g (hL:a1k L):(L.map (·.1)).all Sh.right=true:=by
 rw[List.all_eq_true];intro s hs;obtain⟨x,hx,rfl⟩:=List.mem_map.1 hs;exact a1p (hL x hx)
theorem c3t (hL:a1k L)(ho:¬ nd.op=1)(h:(a1j nd (L.map (·.1))).1=0):
  a4h nd L.length=true∧(a0r nd L).1=0∧(a0r nd L).2.1=(a1j nd (L.map (·.1))).2∧a0a (a0r nd L).2.1 (a0r nd L).2.2=true:=by
 have hlen:(L.map (·.1)).length=L.length:=by simp
 have hf:a4h nd L.length=true:=by
  cases hf:a4h nd L.length with
  | true=>rfl
  | false=>rw[a9y (by rw[hlen];exact hf)] at h;cases h
 have hw:=b3m (nd:=nd) (L:=L.map (·.1)) (by rw[hlen];exact hf) (d1g hL) ho;obtain⟨l1,l2⟩:=d2e nd L ((L.map (·.1)).map zeros) (d6b L).symm hL (d3q hL);rw[hw] at h ⊢;by_cases hz:(a0r nd ((L.map (·.1)).map zeros)).1=0
 ·rw[iP hz];exact⟨hf,l1.trans hz,l2,d2h nd L (l1.trans hz)⟩
 ·rw[iN hz] at h;exact absurd h hz
noncomputable def insT (acc:TL) (l:List Int):TL:=l.map fun k=>acc.getD k.toNat ([],[])
noncomputable def a2i (P:TL):Nat→TL→List a0s→TL
 | _,acc,[]=>acc
 | q,acc,nd::l=>if nd.op=1 then a2i P (q+1) (acc++[P.getD q ([],[])]) l else a2i P q (acc++[(a0r nd (insT acc nd.ins)).2]) l
def a4z (N:List a0s) (k:Int):List Int:=((N.map (·.shape)).getD k.toNat [])
def c7k (N:List a0s) (P:TL) (i:Nat):Prop:=∀(j:Nat) (k:Int) (t:List Int × List Int),(parF 0 N)[j]?=some k→P[j]?=some t→j<i→a0a t.1 t.2=true∧t.1=a4z N k
def FitP (N:List a0s) (P:TL):Prop:=P.length=(parF 0 N).length∧c7k N P P.length
open Classical in
noncomputable def a6w (G:a3n) (P:TL):Int × TL :=
 if (a2f G).1=0 then(if FitP G.nodes P then(0,a2i P 0 [] G.nodes) else(13,[])) else((a2f G).1,[])
noncomputable def a7p (G:a3n) (P:TL):Int × TL :=
 if (a6w G P).1=0 then(0,insT (a6w G P).2 G.outs) else((a6w G P).1,[])
open Classical in
noncomputable def b4h (nd:a0s) (L:TL):Int × List Int × List Int :=
 if a1k L then(if (a1j nd (L.map (·.1))).1=0 then(if nd.op=1 then refused 22 else a0r nd L) else refused (a1j nd (L.map (·.1))).1) else refused 13
theorem c5g {t:List Int × List Int}(h:L[j]?=some t)(hr:a0a t.1 t.2=false):b4h nd L=refused 13:=by
 rw[b4h,iN];intro ha;have:=ha t (mG h);rw[hr] at this;cases this
theorem c2o (h:¬(a2f G).1=0):a6w G P=((a2f G).1,[]):=by rw[a6w,iN h]
theorem a9d (h:(a2f G).1=0)(g:¬ FitP G.nodes P):a6w G P=(13,[]):=by rw[a6w,iP h,iN g]
theorem a7i (h:(a2f G).1=0)(g:FitP G.nodes P):a6w G P=(0,a2i P 0 [] G.nodes):=by rw[a6w,iP h,iP g]
theorem d5h {acc:TL}(l:List Int):a2w (acc.map (·.1)) l=(insT acc l).map (·.1):=by
 rw[a2w,insT,List.map_map];apply List.map_congr_left;intro k _;exact(a6a acc k.toNat).symm
theorem d1u {acc:TL}(hA:a1k acc)(h:b6r (acc.map (·.1)) l=true):a1k (insT acc l):=fun t ht=>by
 obtain⟨k,hk,rfl⟩:=List.mem_map.1 ht;have h1:=List.all_eq_true.1 h k hk;simp only[List.length_map,Bool.and_eq_true,decide_eq_true_eq] at h1;have hlt:k.toNat<acc.length:=by omega
 rw[gD,List.getElem?_eq_getElem hlt];exact hA _ (List.getElem_mem hlt)
theorem b2r {L:List (List Int)}(ho:nd.op=1)(h:(a1j nd L).1=0):a1j nd L=(0,nd.shape):=by
 have k1:a4h nd L.length=true:=by
  cases e:a4h nd L.length with
  | true=>rfl
  | false=>rw[a9y e] at h;cases h
 have k2:L.all Sh.right=true:=by
  cases e:L.all Sh.right with
  | true=>rfl
  | false=>rw[a1j,iP k1,iN (by rw[e];simp)] at h;cases h
 rw[b1c k1 k2 ho] at h ⊢;by_cases k3:Sh.right nd.shape=true
 ·rw[iP k3]
 ·rw[iN k3] at h;cases h
structure Amid (nm:List Int) (N:List a0s) (P:TL) (L:List (List Int)) (j q:Nat) (acc:TL):Prop where
 len:acc.length=j
 all:a1k acc
 go:a0i nm (acc.map (·.1)) (N.drop j)=(0,L)
 pars:(parF 0 N).drop q=parF j (N.drop j)
 vals:a2i P q acc (N.drop j)=a2i P 0 [] N
theorem b5d {L:List (List Int)}(h:a0i nm [] N=(0,L)):Amid nm N P L 0 0 [] :=
 ⟨rfl,fun t ht=>by simp at ht,h,rfl,rfl⟩
theorem b3l {L:List (List Int)}{l:List a0s}(h:a0i nm acc (nd::l)=(0,L)):b6r acc nd.ins=true∧(a1j nd (a2w acc nd.ins)).1=0∧a0i nm (acc++[(a1j nd (a2w acc nd.ins)).2]) l=(0,L):=by
 unfold a0i at h
 split at h
 ·rename_i h1
  split at h
  ·rename_i h2
   split at h
   ·exact⟨h1,h2,h⟩
   ·rename_i h3;injection h with h;exact absurd h h3
  ·rename_i h2;injection h with h;exact absurd h h2
 ·injection h with h;cases h
section
variable {nm : List Int} {N : List a0s} {P : TL} {L : List (List Int)} {j q : Nat} {acc : TL} {nd : a0s}
theorem Amid.ins (h:Amid nm N P L j q acc)(hn:N[j]?=some nd):∀(i:Nat) (x:Int),nd.ins[i]?=some x→0≤x∧x<j:=fun i x hi=>by
 have hg:=h.go;rw[a7x hn] at hg;have h1:=List.all_eq_true.1 (b3l hg).1 x (mG hi);have hl:=h.len;simp only[List.length_map,Bool.and_eq_true,decide_eq_true_eq] at h1;omega
theorem Amid.work (h:Amid nm N P L j q acc)(hn:N[j]?=some nd)(ho:¬ nd.op=1):a1k (insT acc nd.ins)∧a4h nd (insT acc nd.ins).length=true∧(a0r nd (insT acc nd.ins)).1=0∧Amid nm N P L (j+1) q (acc++[(a0r nd (insT acc nd.ins)).2]):=by
 have hg:=h.go;rw[a7x hn] at hg;obtain⟨g1,g2,g3⟩:=b3l hg;have hR:=d1u h.all g1;rw[d5h] at g2 g3;obtain⟨w1,w2,w3,w4⟩:=c3t hR ho g2;refine⟨hR,w1,w2,⟨by rw[List.length_append,List.length_singleton,h.len],fun t ht=>?_,?_,?_,?_⟩⟩
 ·rcases List.mem_append.1 ht with ht|ht
  ·exact h.all t ht
  ·rw[List.mem_singleton.1 ht];exact w4
 ·rw[List.map_append,List.map_singleton,w3];exact g3
 ·rw[h.pars,a7x hn,parF,iN ho]
 ·have:=h.vals;rw[a7x hn,a2i,iN ho] at this;exact this
theorem Amid.param (h:Amid nm N P L j q acc)(hn:N[j]?=some nd)(ho:nd.op=1)(hF:FitP N P):∃ t,P[q]?=some t∧a0a t.1 t.2=true∧t.1=nd.shape∧Amid nm N P L (j+1) (q+1) (acc++[t]):=by
 have hp:=h.pars;rw[a7x hn,parF,iP ho] at hp
 have hk:(parF 0 N)[q]?=some (j:Int):=by
  have:((parF 0 N).drop q)[0]?=some (j:Int):=by rw[hp];rfl
  rwa [List.getElem?_drop,Nat.add_zero] at this
 have hq:q<P.length:=by rw[hF.1];exact(lL hk)
 obtain⟨t,ht⟩:∃ t,P[q]?=some t:=gE hq;obtain⟨f1,f2⟩:=hF.2 q j t hk ht hq
 have hsh:a4z N (j:Int)=nd.shape:=by
  rw[a4z,Int.toNat_natCast,gD,List.getElem?_map,hn];rfl
 rw[hsh] at f2;have hg:=h.go;rw[a7x hn] at hg;obtain⟨g1,g2,g3⟩:=b3l hg;have hs:a1j nd (a2w (acc.map (·.1)) nd.ins)=(0,nd.shape):=b2r ho g2;rw[hs] at g3;refine⟨t,ht,f1,f2,⟨by rw[List.length_append,List.length_singleton,h.len],fun u hu=>?_,?_,?_,?_⟩⟩
 ·rcases List.mem_append.1 hu with hu|hu
  ·exact h.all u hu
  ·rw[List.mem_singleton.1 hu];exact f1
 ·rw[List.map_append,List.map_singleton,f2];exact g3
 ·have:(parF 0 N).drop (q+1)=((parF 0 N).drop q).drop 1:=by rw[List.drop_drop]
  rw[this,hp];rfl
 ·have hv:=h.vals;rw[a7x hn,a2i,iP ho,gD,ht] at hv;exact hv
theorem Amid.end_ (h:Amid nm N P L N.length q acc):a2i P 0 [] N=acc∧acc.map (·.1)=L:=by
 have h1:=h.vals;have h2:=h.go;rw[List.drop_length,a2i] at h1;rw[List.drop_length,a0i] at h2;exact⟨h1.symm,by injection h2⟩
end
theorem c9e {nm:List Int}{N:List a0s}{P:TL}{L:List (List Int)}(h:a0i nm [] N=(0,L))(hF:FitP N P):∀ j,j≤N.length→∃ q acc,Amid nm N P L j q acc
 | 0,_=>⟨0,[],b5d h⟩
 | j+1,hj=>by
  obtain⟨q,acc,ha⟩:=c9e h hF j (by omega);have hn:N[j]?=some N[j]:=List.getElem?_eq_getElem (by omega);by_cases ho:(N[j]).op=1
  ·obtain⟨t,_,_,_,h2⟩:=ha.param hn ho hF;exact⟨_,_,h2⟩
  ·exact⟨_,_,(ha.work hn ho).2.2.2⟩
theorem b4o {L:List (List Int)}(h:a0i nm [] N=(0,L))(hF:FitP N P):a1k (a2i P 0 [] N)∧(a2i P 0 [] N).map (·.1)=L∧(a2i P 0 [] N).length=N.length:=by
 obtain⟨q,acc,ha⟩:=c9e h hF N.length (Nat.le_refl _);obtain⟨h1,h2⟩:=ha.end_;rw[h1];exact⟨ha.all,h2,ha.len⟩
end Go.Proofs.YtjblengklgkgfaaGreat
