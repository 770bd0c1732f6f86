import Derived.Test.YtajhdeddgdhccaaGreatDoorPay
set_option maxRecDepth 100000
set_option maxHeartbeats 12800000
namespace Go.Proofs.YtajhdeddgdhccaaGreatDoor
open Go.RowKit Go.Proofs.Tryz
variable {G:a2g} {acc:List (List Int)} {j n q:Nat} {l nm:List Int} {x:Int}
def b5d (acc:List (List Int)) (l:List Int):Bool:=l.all fun k=>decide (0≤k)&&decide (k<acc.length)
def a2d (acc:List (List Int)) (l:List Int):List (List Int):=l.map fun k=>acc.getD k.toNat []
noncomputable def a9l (nm:List Int) (nd:a0p) (r:Nat):Int:=(a4p nm (a0b nd.note) (r:Int)).2.2
noncomputable def a0k (nm:List Int) (acc:List (List Int)):List a0p→Int × List (List Int)
 | []=>(0,acc)
 | nd::l=>if b5d acc nd.ins=true then
   (if (a1a nd (a2d acc nd.ins)).1=0 then
    (if a9l nm nd (a1a nd (a2d acc nd.ins)).2.length=0 then a0k nm (acc++[(a1a nd (a2d acc nd.ins)).2]) l
    else(a9l nm nd (a1a nd (a2d acc nd.ins)).2.length,[]))
   else((a1a nd (a2d acc nd.ins)).1,[]))
  else(23,[])
noncomputable def a0z (G:a2g):Int × List (List Int) :=
 if a5q G=true then
  (if G.nodes.length≤48∧G.outs.length≤48 then
   (if (a0k (a0b G.names) [] G.nodes).1=0 then
    (if (G.outs.all fun k=>decide (0≤k)&&decide (k<G.nodes.length))=true then(0,(a0k (a0b G.names) [] G.nodes).2) else(23,[]))
   else((a0k (a0b G.names) [] G.nodes).1,[]))
  else(3,[]))
 else(15,[])
def c5y (q:Nat) (G:a2g):Prop:=∀(j:Nat) (nd:a0p),G.nodes[j]?=some nd→nd.ins.length≤q
theorem b3k (h:l[j]?=some x)(hx:¬(0≤x∧x<acc.length)):b5d acc l=false:=by
 rw[b5d,List.all_eq_false];exact⟨x,mG h,by simpa using fun h0=>by have:=hx;omega⟩
theorem b1e (h:∀(i:Nat) (x:Int),l[i]?=some x→0≤x∧x<acc.length):b5d acc l=true:=by
 rw[b5d,List.all_eq_true];intro x hx;obtain⟨i,hi,e⟩:=List.getElem_of_mem hx;have:=h i x (by rw[List.getElem?_eq_getElem hi,e]);simpa using this
theorem b2r (h:l[j]?=some x)(hx:¬(0≤x∧x<n)):(l.all fun k=>decide (0≤k)&&decide (k<n))=false:=by
 rw[List.all_eq_false];exact⟨x,mG h,by simpa using fun h0=>by have:=hx;omega⟩
theorem b0h (h:∀(i:Nat) (x:Int),l[i]?=some x→0≤x∧x<n):(l.all fun k=>decide (0≤k)&&decide (k<n))=true:=by
 rw[List.all_eq_true];intro x hx;obtain⟨i,hi,e⟩:=List.getElem_of_mem hx;have:=h i x (by rw[List.getElem?_eq_getElem hi,e]);simpa using this
theorem a8e (h:a5q G=false):a0z G=(15,[]):=by rw[a0z,h];rfl
theorem a6g (h:a5q G=true)(hl:¬(G.nodes.length≤48∧G.outs.length≤48)):a0z G=(3,[]):=by rw[a0z,iP h,iN hl]
theorem a6s (h:a5q G=true)(hl:G.nodes.length≤48∧G.outs.length≤48){e:Int}{l:List (List Int)}(hg:a0k (a0b G.names) [] G.nodes=(e,l))(he:¬ e=0):a0z G=(e,[]):=by
 rw[a0z,iP h,iP hl,hg,iN he]
theorem a3w (h:a5q G=true)(hl:G.nodes.length≤48∧G.outs.length≤48){l:List (List Int)}(hg:a0k (a0b G.names) [] G.nodes=(0,l)):a0z G=if (G.outs.all fun k=>decide (0≤k)&&decide (k<G.nodes.length))=true then(0,l) else(23,[]):=by
 rw[a0z,iP h,iP hl,hg,iP rfl]
theorem a2n (w:World):Lils w none 0 []:=⟨rfl,by omega,fun j t ht=>by simp at ht⟩
theorem b3z {w:World}{v:Value}(h:a3r w v G)(hs:c5y 800 G):
  Calls prog 34 #[v] w fun e w'=>(∃ A m c,e=.returned (.tuple #[.slice A m c,.int .i64 (a0z G).1])∧m≤c∧Lils w' A m (a0z G).2)∧Below w.heap.size w w':=by
 have HG:=h;obtain⟨A,na,ca,B,nb,cb,C,nc,cc,rfl,hL⟩:=h;replace HG:=Hd HG;obtain⟨hia,hib,hic,hA,hB,hC,hnm⟩:=hL;have h1:=(((Sep.nil w).old hC).old hA).allocBox w.heap.size 26 [.slice A na ca,.string G.names,.slice B nb cb,.slice C nc cc] rfl;have hal:=hA.le;have hcl:=hC.le;have HAL:=Hd hA.len;have HCL:=Hd hC.len;have HBL:=Hd hB.1;have hbl:=hB.2.1;have HB:=Hd hB;clear hA hC hB
 go_enter func34,ntmps34
 go_upto_region 1 with fail
 generalize w.alloc (.cells #[.slice A na ca,.string G.names,.slice B nb cb,.slice C nc cc] 26)=W at *;have H:=Hd h1;clear h1;have hsm:=hs;have HSM:=Hd hsm;clear hsm hs;obtain⟨g0,g1,g2,g3⟩:=H.cells4 0 rfl;have CM:=b7u (HG.below H.base)
 cases hm:a5q G with
 | false =>
  rw[hm] at CM;have HX:=Hd (a8e hm)
  go_wp2_with fail
  refine CM.mono ?_;rintro e2 w2 ⟨rfl,hb⟩;replace H:=Hd (H.below hb);clear CM hm hb g0 g1 g2 g3;go_wp2;go_ret2;rw[HX.out]
  exact⟨⟨none,0,0,rfl,Nat.le_refl _,a2n _⟩,H.base⟩
 | true =>
  rw[hm] at CM;have HM:=Hd hm
  go_wp2_with fail
  refine CM.mono ?_;rintro e2 w2 ⟨rfl,hb⟩;replace H:=Hd (H.below hb);clear CM hm hb g0 g1 g2 g3;obtain⟨g0,g1,g2,g3⟩:=H.cells4 0 rfl;by_cases l1:48<nb
  ·have e1:decide (48<nb)=true:=by simpa using l1
   have HX:=Hd (a6g HM (by have:=HBL.out;have:=HCL.out;omega));go_wp2;go_ret2;rw[HX.out];exact⟨⟨none,0,0,rfl,Nat.le_refl _,a2n _⟩,H.base⟩
  have e1:decide (48<nb)=false:=by simpa using l1
  by_cases l2:48<nc
  ·have e2:decide (48<nc)=true:=by simpa using l2
   have HX:=Hd (a6g HM (by have:=HBL.out;have:=HCL.out;omega));go_wp2;go_ret2;rw[HX.out];exact⟨⟨none,0,0,rfl,Nat.le_refl _,a2n _⟩,H.base⟩
  have e2:decide (48<nc)=false:=by simpa using l2
  have hl48:=Hd (show G.nodes.length≤48∧G.outs.length≤48 by have:=HBL.out;have:=HCL.out;omega);have hnb48:nb≤48:=by omega
  have hnc48:nc≤48:=by omega
  obtain⟨nm,hnmr⟩:∃ nm,a0b G.names=nm:=⟨_,rfl⟩;have HNM:=Hd hnmr;clear hnmr;replace H:=Hd (H.addRowNil 23 1)
  go_wp2_with fail
  clear e1 e2 l1 l2 g0 g1 g2 g3
  go_loopw [33,4] (fun iv ov wr=>∃(j:Nat) (us:List Value) (pool:List a0i) (lx:Value) (acc:List (List Int)),lx=ov∧iv=.int .i64 j∧j≤nb∧acc.length=j∧a6w us acc pool∧a0k nm acc (G.nodes.drop j)=a0k nm [] G.nodes∧Sep w wr (.row 23 1 lx j us::.box w.heap.size 26 [.slice A na ca,.string G.names,.slice B nb cb,.slice C nc cc]::.ints A na G.sizes::.ints C nc G.outs::pool)) (fun iv _ _=>nb-(intOf iv).toNat)
  case atStart=>exact⟨0,[],[],_,[],rfl,rfl,by omega,rfl,a8a,rfl,H⟩
  case round =>
   clear H;obtain⟨j,us,pool,lx,acc,rfl,rfl,hj,hacc,hP,hgo,hS⟩:=hrel;have H:=Hd hS;have HP:=Hd hP;have HGO:=Hd hgo;have HACC:=Hd hacc;clear hS hP hgo hacc;obtain⟨g0,g1,g2,g3⟩:=H.cells4 1 rfl;by_cases hlt:j<nb
   ·obtain⟨nd,hnd⟩:∃ nd,G.nodes[j]?=some nd:=gE (by have:=HBL.out;omega);obtain⟨la,S,ns,cs,D,nD,cD,E,ne,ce,hla,hlb,k0,k1,k2,k3,k4,k5,k6,hNL⟩:=HB.out.2.2 j nd hnd;subst hla;obtain⟨c0,c1,c2,c3,c4,c5,c6⟩:=old7 H hlb k0 k1 k2 k3 k4 k5 k6;have HGD:=Hd (show a0k nm acc (nd::G.nodes.drop (j+1))=a0k nm [] G.nodes by rw[←c6p hnd];exact HGO);have hns:ns≤800:=by have h5:=HSM.out j nd hnd;have h6:=hNL.inA.len;omega
    have HNL:=Hd hNL;have HSL:=Hd hNL.inA.len;have hnsl:=hNL.inA.le;clear k0 k1 k2 k3 k4 k5 k6 hNL hnd;have h3:=H.allocBox wr.heap.size 37 [.int .i64 nd.op,.slice S ns cs,.slice D nD cD,.slice E ne ce,.int .i64 nd.n,.int .i64 nd.how,.string nd.note] rfl
    go_upto_region 9 with fail
    generalize wr.alloc (.cells #[.int .i64 nd.op,.slice S ns cs,.slice D nD cD,.slice E ne ce,.int .i64 nd.n,.int .i64 nd.how,.string nd.note] 37)=w3 at *;generalize wr.heap.size=gn at *;have h4:=h3.addRowNil 23 1;replace H:=Hd h4;clear h3 h4 c0 c1 c2 c3 c4 c5 c6 g0 g1 g2 g3;obtain⟨n0,n1,n2,n3,n4,n5,n6⟩:=H.cells7 1 rfl
    go_wp2_with fail
    clear n0 n1 n2 n3 n4 n5 n6
    go_loopw [41,7] (fun iv ov wr=>∃(q:Nat) (us2:List Value) (lx2:Value),lx2=ov∧iv=.int .i64 q∧q≤ns∧(∀(i:Nat) (x:Int),nd.ins[i]?=some x→i<q→0≤x∧x<j)∧a6w us2 (a2d acc (nd.ins.take q)) pool∧Sep w wr (.row 23 1 lx2 q us2::.box gn 37 [.int .i64 nd.op,.slice S ns cs,.slice D nD cD,.slice E ne ce,.int .i64 nd.n,.int .i64 nd.how,.string nd.note]::.row 23 1 lx j us::.box w.heap.size 26 [.slice A na ca,.string G.names,.slice (some la) nb cb,.slice C nc cc]::.ints A na G.sizes::.ints C nc G.outs::pool)) (fun iv _ _=>ns-(intOf iv).toNat)
    case atStart=>exact⟨0,[],_,rfl,rfl,by omega,by omega,a8a,H⟩
    case round =>
     clear H;obtain⟨q,us2,lx2,rfl,rfl,hq,hAll,hP2,hS⟩:=hrel;have H:=Hd hS;have HP2:=Hd hP2;have HA:=Hd hAll;clear hS hP2 hAll;by_cases hlq:q<ns
     ·obtain⟨sa,x,hsA,_,hx,hcx,_⟩:=(H.oldI HNL.inA).at_ (k:=q) hlq;subst hsA;by_cases h1:x<0
      ·have d1:decide (x<0)=true:=by simpa using h1
       have HX:=Hd (a6s HM hl48 (by rw[HNM.out,←HGD.out,a0k,b3k hx (by have:=HACC.out;omega)];rfl) (by decide:¬(23:Int)=0));clear hx;go_wp2;go_ret2;rw[HX.out];exact⟨⟨none,0,0,rfl,Nat.le_refl _,a2n _⟩,H.base⟩
      obtain⟨xx,rfl⟩:=eZ (by omega:0≤x);have d1:decide ((xx:Int)<0)=false:=by simp
      by_cases h2:j≤xx
      ·have d2:decide (j≤xx)=true:=by simpa using h2
       have HX:=Hd (a6s HM hl48 (by rw[HNM.out,←HGD.out,a0k,b3k hx (by have:=HACC.out;omega)];rfl) (by decide:¬(23:Int)=0));clear hx;go_wp2;go_ret2;rw[HX.out];exact⟨⟨none,0,0,rfl,Nat.le_refl _,a2n _⟩,H.base⟩
      have d2:decide (j≤xx)=false:=by simpa using h2
      obtain⟨s,hs⟩:∃ s,acc[xx]?=some s:=gE (by have:=HACC.out;omega);obtain⟨S5,n5,c5,p5,hu5,hp5⟩:=HP.out.2 xx s hs;obtain⟨go,co,hv,hco⟩:=H.rowForm 2 rfl (by omega);subst hv;have hcu:=b9v H 2 rfl hu5 (by omega:xx<j);rw[a2h] at hcu;have hb5:xx<j:=by omega
      have hb6:(xx:Int)<j:=by omega
      have HQ2:=Hd (show a6w (us2++[.slice S5 n5 c5]) (a2d acc (nd.ins.take (q+1))) pool by
       have he:a2d acc (nd.ins.take (q+1))=a2d acc (nd.ins.take q)++[s]:=by
        rw[List.take_add_one,hx,a2d,a2d,List.map_append];simp[List.getD_eq_getElem?_getD,hs]
       rw[he];exact HP2.snoc hp5)
      have HXX:=Hd hx;clear hx hs hu5 hp5
      go_wp2_with (at_builtin;refine a1y rfl (.tmp 52) (.tmp 57) 44 rfl underlying44 H.out 0 rfl rfl _ rfl ?c1 ?_)
      case c1=>omega
      intro v9 w9 h9;have H9:=Hd h9;clear h9 hcu hcx;go_wp2;go_roundw
      case rel=>exact⟨q+1,us2++[Value.slice S5 n5 c5],_,rfl,by go_num,by omega,fun i y hi hi2=>by
       rcases Nat.lt_or_ge i q with hij|hij
       ·exact HA i y hi hij
       ·obtain rfl:i=q:=by omega
        have h9:=HXX.out
        rw[hi] at h9;injection h9 with h9;omega,HQ2,H9⟩
      case measure=>simp[intOf];omega
     ·obtain rfl:q=ns:=by omega
      have HIN:=Hd (show b5d acc nd.ins=true from b1e fun i x hi=>by rw[HACC.out];exact HA i x hi (by have:=HSL.out;have:=(lL hi);omega));have hP3:=HP2.out;rw[List.take_of_length_le (by have:=HSL.out;omega)] at hP3;obtain⟨Al,cl,hv,hcl,hLi⟩:=a6q 0 H rfl hP3 (by rw[a2d,List.length_map];exact HSL) (by omega) 6 (fun i=>rfl);subst hv;clear hP3;have CS:=a6l (cl:=cl) (a4x.wide (show a4x _ (.agg #[.int .i64 nd.op,.slice S q cs,.slice D nD cD,.slice E ne ce,.int .i64 nd.n,.int .i64 nd.how,.string nd.note]) nd from⟨S,q,cs,D,nD,cD,E,ne,ce,rfl,HNL.below H.base⟩)) hLi;obtain⟨⟨e5,s5⟩,hR⟩:∃ r,a1a nd (a2d acc nd.ins)=r:=⟨_,rfl⟩;rw[hR] at CS;have HR:=Hd hR;clear hLi hR;obtain⟨n0,n1,n2,n3,n4,n5,n6⟩:=H.cells7 1 rfl
      go_wp2_with fail
      refine CS.mono ?_;rintro e4 w4 ⟨⟨v5,m5,rfl,hO⟩,hb4⟩;clear CS n0 n1 n2 n3 n4 n5 n6;replace hO:OwnS w4 _ 3 v5 m5 s5:=hO;obtain⟨A5,c5,rfl,hmc5,_,_⟩:=hO.form;have HML:=Hd hO.len;replace H:=Hd (H.addOwn hb4 hO);clear hO hb4;by_cases he:e5=0
      ·subst he;obtain⟨n0,n1,n2,n3,n4,n5,n6⟩:=H.cells7 2 rfl;obtain⟨g0,g1,g2,g3⟩:=H.cells4 4 rfl;have CN:=b2e (w:=w4) (m5:Int) hnm HNL.note;rw[HNM.out] at CN;obtain⟨e6,hE⟩:∃ e6,a9l nm nd m5=e6:=⟨_,rfl⟩;have HE6:=Hd hE;unfold a9l at hE;rw[hE] at CN;clear hE
       go_wp2_with fail
       refine CN.mono ?_;rintro e8 w8 ⟨⟨v8,m8,rfl,_⟩,hb8⟩;replace H:=Hd (H.below hb8);clear CN hb8 n0 n1 n2 n3 n4 n5 n6 g0 g1 g2 g3;by_cases he6:e6=0
       ·subst he6;have HG2:=Hd (show a0k nm (acc++[s5]) (G.nodes.drop (j+1))=a0k nm [] G.nodes by have h7:=HGD.out;rw[a0k,iP HIN.out,HR.out,iP rfl,HML.out,HE6.out,iP rfl] at h7;exact h7)
        go_wp2_with (at_builtin;refine a1y rfl (.tmp 83) (.tmp 85) 44 rfl underlying44 H.out 3 rfl rfl _ rfl ?c1 ?_)
        case c1=>omega
        intro v9 w9 h9;have h10:=Sep.tail_ (Sep.tail_ (Sep.perm h9 (l':=[_,_,.row 23 1 v9 (j+1) (us++[.slice A5 m5 c5]),.box w.heap.size 26 [.slice A na ca,.string G.names,.slice (some la) nb cb,.slice C nc cc],.ints A na G.sizes,.ints C nc G.outs]++([a0i.own 3 (.slice A5 m5 c5) m5 s5]++pool)) (by rw[←List.append_assoc];exact(List.perm_append_comm (l₁:=[a0i.own 3 (.slice A5 m5 c5) m5 s5]) (l₂:=[_,_,_,_,_,_])).append_right pool)));have H10:=Hd h10;clear h9 h10;go_wp2;go_roundw
        case rel=>exact⟨j+1,us++[Value.slice A5 m5 c5],a0i.own 3 (.slice A5 m5 c5) m5 s5::pool,_,acc++[s5],rfl,by go_num,by omega,by rw[List.length_append,List.length_singleton,HACC.out],HP.more,HG2,H10⟩
        case measure=>simp[intOf];omega
       ·have dE:(e6 != 0)=true:=by simpa using he6
        have HX:=Hd (a6s HM hl48 (by rw[HNM.out,←HGD.out,a0k,iP HIN.out,HR.out,iP rfl,HML.out,HE6.out,iN he6]) he6);clear he6;go_wp2;go_ret2;rw[HX.out];exact⟨⟨none,0,0,rfl,Nat.le_refl _,a2n _⟩,H.base⟩
      ·have dE:(e5 != 0)=true:=by simpa using he
       have HX:=Hd (a6s HM hl48 (by rw[HNM.out,←HGD.out,a0k,iP HIN.out,HR.out,iN he]) he);clear he;go_wp2;go_ret2;rw[HX.out];exact⟨⟨none,0,0,rfl,Nat.le_refl _,a2n _⟩,H.base⟩
   ·obtain rfl:j=nb:=by omega
    have HEND:=Hd (show a0k nm [] G.nodes=(0,acc) by rw[←HGO.out,List.drop_eq_nil_of_le (by have:=HBL.out;omega),a0k]);have HXE:=Hd (a3w HM hl48 (by rw[HNM.out];exact HEND))
    go_wp2_with fail
    clear g0 g1 g2 g3
    go_loopw [91] (fun iv wr=>∃ q:Nat,iv=.int .i64 q∧q≤nc∧(∀(i:Nat) (x:Int),G.outs[i]?=some x→i<q→0≤x∧x<j)∧Sep w wr (.row 23 1 lx j us::.box w.heap.size 26 [.slice A na ca,.string G.names,.slice B j cb,.slice C nc cc]::.ints A na G.sizes::.ints C nc G.outs::pool)) (fun iv _=>nc-(intOf iv).toNat)
    case atStart=>exact⟨0,rfl,by omega,by omega,H⟩
    case round =>
     clear H;obtain⟨q,rfl,hq,hAll,hS⟩:=hrel;have H:=Hd hS;have HA:=Hd hAll;clear hS hAll;obtain⟨g0,g1,g2,g3⟩:=H.cells4 1 rfl;by_cases hlq:q<nc
     ·obtain⟨sa,x,hsA,_,hx,hcx,_⟩:=(H.oldInts 3 rfl).at_ (k:=q) hlq;subst hsA;by_cases h1:x<0
      ·have d1:decide (x<0)=true:=by simpa using h1
       have HX:=Hd (HXE.trans (by rw[b2r hx (by have:=HBL.out;omega)];rfl:_=((23:Int),([]:List (List Int)))));clear hx;go_wp2;go_ret2;rw[HX.out];exact⟨⟨none,0,0,rfl,Nat.le_refl _,a2n _⟩,H.base⟩
      obtain⟨xx,rfl⟩:=eZ (by omega:0≤x);have d1:decide ((xx:Int)<0)=false:=by simp
      by_cases h2:j≤xx
      ·have d2:decide (j≤xx)=true:=by simpa using h2
       have HX:=Hd (HXE.trans (by rw[b2r hx (by have:=HBL.out;omega)];rfl:_=((23:Int),([]:List (List Int)))));clear hx;go_wp2;go_ret2;rw[HX.out];exact⟨⟨none,0,0,rfl,Nat.le_refl _,a2n _⟩,H.base⟩
      have d2:decide (j≤xx)=false:=by simpa using h2
      have HXX:=Hd hx;clear hx;go_wp2;go_roundw
      case rel=>exact⟨q+1,by go_num,by omega,fun i y hi hi2=>by
       rcases Nat.lt_or_ge i q with hij|hij
       ·exact HA i y hi hij
       ·obtain rfl:i=q:=by omega
        have h9:=HXX.out
        rw[hi] at h9;injection h9 with h9;omega,H⟩
      case measure=>simp[intOf];omega
     ·obtain rfl:q=nc:=by omega
      have HX:=Hd (HXE.trans (iP (b0h fun i x hi=>by rw[HBL.out];exact HA i x hi (by have:=HCL.out;have:=(lL hi);omega))));obtain⟨Al,cl,hv,hcl2,hLi⟩:=a6q 0 H rfl HP HACC (by omega) 4 (fun i=>rfl);subst hv;have HLI:=Hd hLi;clear hLi;go_wp2;go_ret2;rw[HX.out];exact⟨⟨Al,_,cl,rfl,hcl2,HLI⟩,H.base⟩
def Few (q:Nat) (nd:a0p):Prop:=nd.ins.length≤q∧nd.shape.length≤q∧nd.a.length≤q
structure FewG (q:Nat) (G:a2g):Prop where
 nodes:G.nodes.length≤q
 sizes:G.sizes.length≤q
 outs:G.outs.length≤q
 each:∀(j:Nat) (nd:a0p),G.nodes[j]?=some nd→Few q nd
theorem FewG.small (h:FewG q G):c5y q G:=fun j nd hj=>(h.each j nd hj).1
theorem a8d (nm:List Int):∀(N:List a0p) (acc L:List (List Int)),a0k nm acc N=(0,L)→L.length=acc.length+N.length
 | [],acc,L,h=>by
  have:acc=L:=by rw[a0k] at h;injection h
  subst this;rfl
 | nd::N,acc,L,h=>by
  unfold a0k at h
  split at h
  ·split at h
   ·split at h
    ·have:=a8d nm N _ L h;rw[this,List.length_append,List.length_singleton,List.length_cons];omega
    ·rename_i h3;injection h with h;exact absurd h h3
   ·rename_i h2;injection h with h;exact absurd h h2
  ·injection h with h;cases h
noncomputable def a7z (nm:List Int) (note:ByteArray) (rank:Int):ByteArray :=
 if (a4p nm (a0b note) rank).2.1=true then a3p nm (a4p nm (a0b note) rank).1 else c6k
noncomputable def a8w (nm:List Int) (o:ByteArray) (nd:a0p) (s:List Int):ByteArray :=
 o++a5e nd.op++a4z nd.ins++a4z nd.shape++a4z nd.a++spT++numT nd.n++spT++numT nd.how++spT++a7z nm nd.note s.length++lfT
noncomputable def a3b (nm:List Int):ByteArray→List a0p→List (List Int)→ByteArray
 | o,nd::N,s::L=>a3b nm (a8w nm o nd s) N L
 | o,_,_=>o
def b9j:ByteArray:=⟨#[109,101,115,104,32,45]⟩
def b9k:ByteArray:=⟨#[109,101,115,104,32]⟩
def a5d (G:a2g):ByteArray:=a1w (if G.names=⟨#[]⟩ then b9j else b9k++G.names) G.sizes++lfT
def b5i:ByteArray:=⟨#[111,117,116,115]⟩
noncomputable def a2i (G:a2g) (L:List (List Int)):ByteArray:=a1w (a3b (a0b G.names) (a5d G) G.nodes L++b5i) G.outs++lfT
noncomputable def a5y (G:a2g):ByteArray × Int :=
 if (a0z G).1≠0 then(⟨#[]⟩,(a0z G).1)
 else if 65536<(a2i G (a0z G).2).size then(⟨#[]⟩,3) else(a2i G (a0z G).2,0)
theorem b9t {o p:List Int}{r:Int}(h:a2z nm o r=some p):p.length≤o.length+1:=by
 unfold a2z at h
 split at h
 ·injection h with h;subst h;omega
 ·split at h
  ·injection h with h;subst h;simp
  ·split at h
   ·cases h
   ·split at h
    ·cases h
    ·injection h with h;subst h;simp
theorem b9s {nm:List Int}:∀(l o p:List Int),a3a nm o l=some p→p.length≤o.length+l.length
 | [],o,p,h=>by
  have:o=p:=by simpa [a3a] using h
  subst this;omega
 | r::l,o,p,h=>by
  rw[a3a] at h
  cases hs:a2z nm o r with
  | none=>rw[hs] at h;cases h
  | some q =>
   rw[hs] at h;have h1:=b9s l q p h;have h2:=b9t hs;simp only[List.length_cons];omega
theorem b0e (nm l:List Int)(rank:Int):(a4p nm l rank).1.length≤16:=by
 by_cases h:16<l.length
 ·rw[a6p h];simp
 ·cases g:a3a nm [] l with
  | none=>rw[a7y (by omega) g];simp
  | some out =>
   have:=b9s _ _ _ g;simp only[List.length_nil] at this;by_cases he:out=[]
   ·subst he;rw[a3u (by omega) g];simp
   ·by_cases hr:(out.length:Int)=rank
    ·rw[a8p (by omega) g he hr];show out.length≤16;omega
    ·rw[a8q (by omega) g he hr];simp
theorem b6k (nm:List Int)(t:ByteArray)(r:Int):(a7z nm t r).size≤64:=by
 unfold a7z;split
 ·have h:=a6u nm (a4p nm (a0b t) r).1;have:=b0e nm (a0b t) r;omega
 ·show 1≤64;omega
theorem c4t (nm:List Int)(o:ByteArray)(nd:a0p)(s:List Int):(a8w nm o nd s).size≤o.size+128+22*(nd.ins.length+nd.shape.length+nd.a.length):=by
 have h1:=b1j nd.op;have h2:=a3g nd.ins;have h3:=a3g nd.shape;have h4:=a3g nd.a;have h5:=a3c nd.n;have h6:=a3c nd.how;have h7:=b6k nm nd.note s.length;have h8:spT.size=1:=rfl;have h9:lfT.size=1:=rfl;simp only[a8w,ByteArray.size_append,h8,h9];omega
theorem a9k (nm:List Int)(q:Nat):∀(N:List a0p) (L:List (List Int)) (o:ByteArray),(∀ nd∈N,Few q nd)→(a3b nm o N L).size≤o.size+N.length*(128+66*q)
 | [],L,o,_=>by cases L <;> simp[a3b]
 | nd::N,[],o,_=>by simp[a3b]
 | nd::N,s::L,o,h=>by
  rw[a3b];have h1:=a9k nm q N L (a8w nm o nd s) (fun x hx=>h x (List.mem_cons_of_mem _ hx));have h2:=c4t nm o nd s;obtain⟨a,b,c⟩:=h nd List.mem_cons_self;have h3:(N.length+1)*(128+66*q)=N.length*(128+66*q)+(128+66*q):=Nat.succ_mul _ _;rw[List.length_cons,h3];omega
theorem b1i (G:a2g):(a5d G).size≤G.names.size+7+22*G.sizes.length:=by
 have h:=a4u G.sizes (if G.names=⟨#[]⟩ then b9j else b9k++G.names);have h9:lfT.size=1:=rfl
 have:(if G.names=⟨#[]⟩ then b9j else b9k++G.names).size≤G.names.size+6:=by
  split
  ·show 6≤_;omega
  ·rw[ByteArray.size_append];show 5+_≤_;omega
 rw[a5d,ByteArray.size_append];omega
theorem b3j (h:FewG q G)(L:List (List Int)):(a2i G L).size≤G.names.size+12+44*q+q*(128+66*q):=by
 have h1:=a4u G.outs (a3b (a0b G.names) (a5d G) G.nodes L++b5i)
 have h2:=a9k (a0b G.names) q G.nodes L (a5d G) (fun nd hn=>by
  obtain⟨i,hi,e⟩:=List.getElem_of_mem hn
  exact h.each i nd (by rw[List.getElem?_eq_getElem hi,e]))
 have h3:=b1i G;have h4:b5i.size=4:=rfl;have h9:lfT.size=1:=rfl;have h5:=h.sizes;have h6:=h.outs;have h7:G.nodes.length*(128+66*q)≤q*(128+66*q):=Nat.mul_le_mul_right _ h.nodes;rw[ByteArray.size_append,h4] at h1;rw[a2i,ByteArray.size_append,h9];omega
theorem a9j (nm:List Int)(nd:a0p)(s:List Int):∀(N:List a0p) (L:List (List Int)) (o:ByteArray),N.length=L.length→a3b nm o (N++[nd]) (L++[s])=a8w nm (a3b nm o N L) nd s
 | [],[],o,_=>rfl
 | _::N,_::L,o,hl=>by
  show a3b nm (a8w nm o _ _) (N++[nd]) (L++[s])=_
  rw[a9j nm nd s N L _ (by simpa using hl)];rfl
 | [],_::_,o,hl=>by simp at hl
 | _::_,[],o,hl=>by simp at hl
theorem b3t {o:ByteArray}{N:List a0p}{L:List (List Int)}{k:Nat}{nd:a0p}{s:List Int}(h1:N[k]?=some nd)(h2:L[k]?=some s):
  a3b nm o (N.take (k+1)) (L.take (k+1))=a8w nm (a3b nm o (N.take k) (L.take k)) nd s:=by
 have e1:=(lL h1);have e2:=(lL h2);rw[List.take_add_one,List.take_add_one,h1,h2];exact a9j nm nd s _ _ o (by rw[List.length_take,List.length_take];omega)
theorem a7u (h:FewG q G)(hq:q≤800)(nm:List Int)(L:List (List Int))(k:Nat)(o:ByteArray):(a3b nm o (G.nodes.take k) L).size≤o.size+42400000:=by
 have h2:=a9k nm q (G.nodes.take k) L o (fun nd hn=>by
  obtain⟨i,hi,e⟩:=List.getElem_of_mem (List.mem_of_mem_take hn)
  exact h.each i nd (by rw[List.getElem?_eq_getElem hi,e]))
 have h3:(G.nodes.take k).length≤800:=by have:=h.nodes;rw[List.length_take];omega
 have h4:(G.nodes.take k).length*(128+66*q)≤800*(128+66*800):=Nat.mul_le_mul h3 (by omega);omega
theorem b2i (h:(a0z G).1=0):a0k (a0b G.names) [] G.nodes=(0,(a0z G).2)∧(a0z G).2.length=G.nodes.length:=by
 have e:a0k (a0b G.names) [] G.nodes=(0,(a0z G).2):=by
  unfold a0z at h ⊢
  split
  ·rename_i h1;rw[iP h1] at h
   split
   ·rename_i h2;rw[iP h2] at h
    split
    ·rename_i h3;rw[iP h3] at h
     split
     ·exact Prod.ext h3 rfl
     ·rename_i h4;rw[iN h4] at h;cases h
    ·rename_i h3;rw[iN h3] at h;exact absurd h h3
   ·rename_i h2;rw[iN h2] at h;cases h
  ·rename_i h1;rw[iN h1] at h;cases h
 exact⟨e,by simpa using a8d _ _ _ _ e⟩
theorem b4t (h:(a0z G).1≠0):a5y G=(⟨#[]⟩,(a0z G).1):=by rw[a5y,iP h]
theorem b6t (h:(a0z G).1=0)(g:65536<(a2i G (a0z G).2).size):a5y G=(⟨#[]⟩,3):=by rw[a5y,iN (by simpa using h),iP g]
theorem a8u (h:(a0z G).1=0)(g:¬ 65536<(a2i G (a0z G).2).size):a5y G=(a2i G (a0z G).2,0):=by rw[a5y,iN (by simpa using h),iN g]
end Go.Proofs.YtajhdeddgdhccaaGreatDoor
