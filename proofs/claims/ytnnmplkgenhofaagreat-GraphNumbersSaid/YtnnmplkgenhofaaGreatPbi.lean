import Derived.Test.YtnnmplkgenhofaaGreatPaz
import Derived.Test.YtnnmplkgenhofaaGreatPbh
set_option maxRecDepth 100000
set_option maxHeartbeats 12800000
namespace Go.Proofs.YtnnmplkgenhofaaGreat
open Go.RowKit
def insOk (acc:List (List Int)) (l:List Int):Bool:=l.all fun k=>decide (0≤k) && decide (k<acc.length)
def insOf (acc:List (List Int)) (l:List Int):List (List Int):=l.map fun k=>acc.getD k.toNat []
noncomputable def noteE (nm:List Int) (nd:NodeV) (r:Nat):Int:=(noteR nm (runesOf nd.note) (r:Int)).2.2
noncomputable def shapesGo (nm:List Int) (acc:List (List Int)):List NodeV→Int × List (List Int)
 | []=>(0,acc)
 | nd::l=>if insOk acc nd.ins=true then
   (if (shapeR nd (insOf acc nd.ins)).1=0 then
    (if noteE nm nd (shapeR nd (insOf acc nd.ins)).2.length=0 then shapesGo nm (acc++[(shapeR nd (insOf acc nd.ins)).2]) l
    else(noteE nm nd (shapeR nd (insOf acc nd.ins)).2.length,[]))
   else((shapeR nd (insOf acc nd.ins)).1,[]))
  else(23,[])
noncomputable def shapesR (G:GraphV):Int × List (List Int) :=
 if meshF G=true then
  (if G.nodes.length≤48∧G.outs.length≤48 then
   (if (shapesGo (runesOf G.names) [] G.nodes).1=0 then
    (if (G.outs.all fun k=>decide (0≤k) && decide (k<G.nodes.length))=true then(0,(shapesGo (runesOf G.names) [] G.nodes).2) else(23,[]))
   else((shapesGo (runesOf G.names) [] G.nodes).1,[]))
  else(3,[]))
 else(15,[])
def SmallG (q:Nat) (G:GraphV):Prop:=∀(j:Nat) (nd:NodeV),G.nodes[j]? = some nd→nd.ins.length≤q
theorem insOk_bad {acc:List (List Int)} {l:List Int} {j:Nat} {x:Int} (h:l[j]? = some x) (hx:¬ (0≤x∧x<acc.length)):insOk acc l=false:=by
 rw[insOk,List.all_eq_false];exact⟨x,List.mem_of_getElem? h,by simpa using fun h0=>by have:=hx;omega⟩
theorem insOk_good {acc:List (List Int)} {l:List Int} (h:∀(i:Nat) (x:Int),l[i]? = some x→0≤x∧x<acc.length):insOk acc l=true:=by
 rw[insOk,List.all_eq_true];intro x hx;obtain⟨i,hi,e⟩:=List.getElem_of_mem hx;have:=h i x (by rw[List.getElem?_eq_getElem hi,e]);simpa using this
theorem outs_bad {n:Nat} {l:List Int} {j:Nat} {x:Int} (h:l[j]? = some x) (hx:¬ (0≤x∧x<n)):(l.all fun k=>decide (0≤k) && decide (k<n))=false:=by
 rw[List.all_eq_false];exact⟨x,List.mem_of_getElem? h,by simpa using fun h0=>by have:=hx;omega⟩
theorem outs_good {n:Nat} {l:List Int} (h:∀(i:Nat) (x:Int),l[i]? = some x→0≤x∧x<n):(l.all fun k=>decide (0≤k) && decide (k<n))=true:=by
 rw[List.all_eq_true];intro x hx;obtain⟨i,hi,e⟩:=List.getElem_of_mem hx;have:=h i x (by rw[List.getElem?_eq_getElem hi,e]);simpa using this
theorem shapesR_mesh {G:GraphV} (h:meshF G=false):shapesR G=(15,[]):=by rw[shapesR,h];rfl
theorem shapesR_long {G:GraphV} (h:meshF G=true) (hl:¬ (G.nodes.length≤48∧G.outs.length≤48)):shapesR G=(3,[]):=by rw[shapesR,if_pos h,if_neg hl]
theorem shapesR_go {G:GraphV} (h:meshF G=true) (hl:G.nodes.length≤48∧G.outs.length≤48) {e:Int} {l:List (List Int)} (hg:shapesGo (runesOf G.names) [] G.nodes=(e,l)) (he:¬ e=0):shapesR G=(e,[]):=by
 rw[shapesR,if_pos h,if_pos hl,hg,if_neg he]
theorem shapesR_end {G:GraphV} (h:meshF G=true) (hl:G.nodes.length≤48∧G.outs.length≤48) {l:List (List Int)} (hg:shapesGo (runesOf G.names) [] G.nodes=(0,l)):shapesR G=if (G.outs.all fun k=>decide (0≤k) && decide (k<G.nodes.length))=true then(0,l) else(23,[]):=by
 rw[shapesR,if_pos h,if_pos hl,hg,if_pos rfl]
theorem lils_nil (w:World):Lils w none 0 []:=⟨rfl,by omega,fun j t ht=>by simp at ht⟩
theorem ref10Shapes_any {w:World} {v:Value} {G:GraphV} (h:GraphIs w v G) (hs:SmallG 800 G) :
  Calls Tryz.prog 18 #[v] w fun e w' => (∃ A m c,e=.returned (.tuple #[.slice A m c,.int .i64 (shapesR G).1])∧m≤c∧Lils w' A m (shapesR G).2)∧Below w.heap.size w w' := by
 have HG:=h;obtain⟨A,na,ca,B,nb,cb,C,nc,cc,rfl,hL⟩:=h;replace HG:=Hd HG;obtain⟨hia,hib,hic,hA,hB,hC,hnm⟩:=hL;have h1:=(((Sep.nil w).old hC).old hA).allocBox w.heap.size 25 [.slice A na ca,.string G.names,.slice B nb cb,.slice C nc cc] rfl;have hal:=hA.le;have hcl:=hC.le;have HAL:=Hd hA.len;have HCL:=Hd hC.len;have HBL:=Hd hB.1;have hbl:=hB.2.1;have HB:=Hd hB;clear hA hC hB
 go_enter Tryz.func18,Tryz.ntmps18
 go_upto_region 1 with fail
 generalize w.alloc (.cells #[.slice A na ca,.string G.names,.slice B nb cb,.slice C nc cc] 25)=W at *;have H:=Hd h1;clear h1;have hsm:=hs;have HSM:=Hd hsm;clear hsm hs;obtain⟨g0,g1,g2,g3⟩:=H.out.cells4 0 rfl;have CM:=ref10Mesh_any (HG.out.below H.out.base)
 cases hm:meshF G with
 | false =>
  rw[hm] at CM;have HX:=Hd (shapesR_mesh hm)
  go_wp2_with fail
  refine CM.mono ?_;rintro e2 w2 ⟨rfl,hb⟩;replace H:=Hd (H.out.below hb);clear CM hm hb g0 g1 g2 g3;go_wp2;go_ret2;rw[HX.out]
  exact⟨⟨none,0,0,rfl,Nat.le_refl _,lils_nil _⟩,H.out.base⟩
 | true =>
  rw[hm] at CM;have HM:=Hd hm
  go_wp2_with fail
  refine CM.mono ?_;rintro e2 w2 ⟨rfl,hb⟩;replace H:=Hd (H.out.below hb);clear CM hm hb g0 g1 g2 g3;obtain⟨g0,g1,g2,g3⟩:=H.out.cells4 0 rfl;by_cases l1:48<nb
  ·have e1:decide (48<nb)=true:=by simpa using l1
   have HX:=Hd (shapesR_long HM.out (by have:=HBL.out;have:=HCL.out;omega));go_wp2;go_ret2;rw[HX.out];exact⟨⟨none,0,0,rfl,Nat.le_refl _,lils_nil _⟩,H.out.base⟩
  have e1:decide (48<nb)=false:=by simpa using l1
  by_cases l2:48<nc
  ·have e2:decide (48<nc)=true:=by simpa using l2
   have HX:=Hd (shapesR_long HM.out (by have:=HBL.out;have:=HCL.out;omega));go_wp2;go_ret2;rw[HX.out];exact⟨⟨none,0,0,rfl,Nat.le_refl _,lils_nil _⟩,H.out.base⟩
  have e2:decide (48<nc)=false:=by simpa using l2
  have hl48:=Hd (show G.nodes.length≤48∧G.outs.length≤48 by have:=HBL.out;have:=HCL.out;omega);have hnb48:nb≤48:=by omega
  have hnc48:nc≤48:=by omega
  obtain⟨nm,hnmr⟩:∃ nm,runesOf G.names=nm:=⟨_,rfl⟩;have HNM:=Hd hnmr;clear hnmr;replace H:=Hd (H.out.addRowNil 22 1)
  go_wp2_with fail
  clear e1 e2 l1 l2 g0 g1 g2 g3
  go_loopw [33,4] (fun iv ov wr=>∃(j:Nat) (us:List Value) (pool:List Chunk) (lx:Value) (acc:List (List Int)),lx=ov∧iv=.int .i64 j∧j≤nb∧acc.length=j∧PoolL us acc pool∧shapesGo nm acc (G.nodes.drop j)=shapesGo nm [] G.nodes∧Sep w wr (.row 22 1 lx j us::.box w.heap.size 25 [.slice A na ca,.string G.names,.slice B nb cb,.slice C nc cc]::.ints A na G.sizes::.ints C nc G.outs::pool)) (fun iv _ _=>nb-(intOf iv).toNat)
  case atStart=>exact⟨0,[],[],_,[],rfl,rfl,by omega,rfl,poolL_nil,rfl,H.out⟩
  case round =>
   clear H;obtain⟨j,us,pool,lx,acc,rfl,rfl,hj,hacc,hP,hgo,hS⟩:=hrel;have H:=Hd hS;have HP:=Hd hP;have HGO:=Hd hgo;have HACC:=Hd hacc;clear hS hP hgo hacc;obtain⟨g0,g1,g2,g3⟩:=H.out.cells4 1 rfl;by_cases hlt:j<nb
   ·obtain⟨nd,hnd⟩:∃ nd,G.nodes[j]? = some nd:=⟨_,List.getElem?_eq_getElem (by have:=HBL.out;omega)⟩;obtain⟨la,S,ns,cs,D,nD,cD,E,ne,ce,hla,hlb,k0,k1,k2,k3,k4,k5,k6,hNL⟩:=HB.out.2.2 j nd hnd;subst hla;obtain⟨c0,c1,c2,c3,c4,c5,c6⟩:=old7 H.out hlb k0 k1 k2 k3 k4 k5 k6;have HGD:=Hd (show shapesGo nm acc (nd::G.nodes.drop (j+1))=shapesGo nm [] G.nodes by rw[← drop_nd hnd];exact HGO.out);have hns:ns≤800:=by have h5:=HSM.out j nd hnd;have h6:=hNL.inA.len;omega
    have HNL:=Hd hNL;have HSL:=Hd hNL.inA.len;have hnsl:=hNL.inA.le;clear k0 k1 k2 k3 k4 k5 k6 hNL hnd;have h3:=H.out.allocBox wr.heap.size 34 [.int .i64 nd.op,.slice S ns cs,.slice D nD cD,.slice E ne ce,.int .i64 nd.n,.int .i64 nd.how,.string nd.note] rfl
    go_upto_region 9 with fail
    generalize wr.alloc (.cells #[.int .i64 nd.op,.slice S ns cs,.slice D nD cD,.slice E ne ce,.int .i64 nd.n,.int .i64 nd.how,.string nd.note] 34)=w3 at *;generalize wr.heap.size=gn at *;have h4:=h3.addRowNil 22 1;replace H:=Hd h4;clear h3 h4 c0 c1 c2 c3 c4 c5 c6 g0 g1 g2 g3;obtain⟨n0,n1,n2,n3,n4,n5,n6⟩:=H.out.cells7 1 rfl
    go_wp2_with fail
    clear n0 n1 n2 n3 n4 n5 n6
    go_loopw [41,7] (fun iv ov wr=>∃(q:Nat) (us2:List Value) (lx2:Value),lx2=ov∧iv=.int .i64 q∧q≤ns∧(∀(i:Nat) (x:Int),nd.ins[i]? = some x→i<q→0≤x∧x<j)∧PoolL us2 (insOf acc (nd.ins.take q)) pool∧Sep w wr (.row 22 1 lx2 q us2::.box gn 34 [.int .i64 nd.op,.slice S ns cs,.slice D nD cD,.slice E ne ce,.int .i64 nd.n,.int .i64 nd.how,.string nd.note]::.row 22 1 lx j us::.box w.heap.size 25 [.slice A na ca,.string G.names,.slice (some la) nb cb,.slice C nc cc]::.ints A na G.sizes::.ints C nc G.outs::pool)) (fun iv _ _=>ns-(intOf iv).toNat)
    case atStart=>exact⟨0,[],_,rfl,rfl,by omega,by omega,poolL_nil,H.out⟩
    case round =>
     clear H;obtain⟨q,us2,lx2,rfl,rfl,hq,hAll,hP2,hS⟩:=hrel;have H:=Hd hS;have HP2:=Hd hP2;have HA:=Hd hAll;clear hS hP2 hAll;by_cases hlq:q<ns
     ·obtain⟨sa,x,hsA,_,hx,hcx,_⟩:=(H.out.oldI HNL.out.inA).at_ (k:=q) hlq;subst hsA;by_cases h1:x<0
      ·have d1:decide (x<0)=true:=by simpa using h1
       have HX:=Hd (shapesR_go HM.out hl48.out (by rw[HNM.out,← HGD.out,shapesGo,insOk_bad hx (by have:=HACC.out;omega)];rfl) (by decide:¬ (23:Int)=0));clear hx;go_wp2;go_ret2;rw[HX.out];exact⟨⟨none,0,0,rfl,Nat.le_refl _,lils_nil _⟩,H.out.base⟩
      obtain⟨xx,rfl⟩:=Int.eq_ofNat_of_zero_le (by omega:0≤x);have d1:decide ((xx:Int)<0)=false:=by simp
      by_cases h2:j≤xx
      ·have d2:decide (j≤xx)=true:=by simpa using h2
       have HX:=Hd (shapesR_go HM.out hl48.out (by rw[HNM.out,← HGD.out,shapesGo,insOk_bad hx (by have:=HACC.out;omega)];rfl) (by decide:¬ (23:Int)=0));clear hx;go_wp2;go_ret2;rw[HX.out];exact⟨⟨none,0,0,rfl,Nat.le_refl _,lils_nil _⟩,H.out.base⟩
      have d2:decide (j≤xx)=false:=by simpa using h2
      obtain⟨s,hs⟩:∃ s,acc[xx]? = some s:=⟨_,List.getElem?_eq_getElem (by have:=HACC.out;omega)⟩;obtain⟨S5,n5,c5,p5,hu5,hp5⟩:=HP.out.2 xx s hs;obtain⟨go,co,hv,hco⟩:=H.out.rowForm 2 rfl (by omega);subst hv;have hcu:=pool_cell H.out 2 rfl hu5 (by omega:xx<j);rw[addrL0] at hcu;have hb5:xx<j:=by omega
      have hb6:(xx:Int)<j:=by omega
      have HQ2:=Hd (show PoolL (us2++[.slice S5 n5 c5]) (insOf acc (nd.ins.take (q+1))) pool by
       have he:insOf acc (nd.ins.take (q+1))=insOf acc (nd.ins.take q)++[s]:=by
        rw[List.take_add_one,hx,insOf,insOf,List.map_append];simp[List.getD_eq_getElem?_getD,hs]
       rw[he];exact HP2.out.snoc hp5)
      have HXX:=Hd hx;clear hx hs hu5 hp5
      go_wp2_with (at_builtin;refine wpList_append_lst rfl (.tmp 52) (.tmp 57) 35 rfl Tryz.underlying35 H.out 0 rfl rfl _ rfl ?c1 ?_)
      case c1=>omega
      intro v9 w9 h9;have H9:=Hd h9;clear h9 hcu hcx;go_wp2;go_roundw
      case rel=>exact⟨q+1,us2++[Value.slice S5 n5 c5],_,rfl,by go_num,by omega,fun i y hi hi2=>by
       rcases Nat.lt_or_ge i q with hij|hij
       ·exact HA.out i y hi hij
       ·obtain rfl:i=q:=by omega
        have h9:=HXX.out
        rw[hi] at h9;injection h9 with h9;omega,HQ2.out,H9.out⟩
      case measure=>simp[intOf];omega
     ·obtain rfl:q=ns:=by omega
      have HIN:=Hd (show insOk acc nd.ins=true from insOk_good fun i x hi=>by rw[HACC.out];exact HA.out i x hi (by have:=HSL.out;have:=(List.getElem?_eq_some_iff.1 hi).1;omega));have hP3:=HP2.out;rw[List.take_of_length_le (by have:=HSL.out;omega)] at hP3;obtain⟨Al,cl,hv,hcl,hLi⟩:=pool_lils 0 H.out rfl hP3 (by rw[insOf,List.length_map];exact HSL.out) (by omega) 6 (fun i=>rfl);subst hv;clear hP3;have CS:=ref10Shape_any (cl:=cl) (show NodeIs _ (.agg #[.int .i64 nd.op,.slice S q cs,.slice D nD cD,.slice E ne ce,.int .i64 nd.n,.int .i64 nd.how,.string nd.note]) nd from⟨S,q,cs,D,nD,cD,E,ne,ce,rfl,HNL.out.below H.out.base⟩) hLi;obtain⟨⟨e5,s5⟩,hR⟩:∃ r,shapeR nd (insOf acc nd.ins)=r:=⟨_,rfl⟩;rw[hR] at CS;have HR:=Hd hR;clear hLi hR;obtain⟨n0,n1,n2,n3,n4,n5,n6⟩:=H.out.cells7 1 rfl
      go_wp2_with fail
      refine CS.mono ?_;rintro e4 w4 ⟨⟨v5,m5,rfl,hO⟩,hb4⟩;clear CS n0 n1 n2 n3 n4 n5 n6;replace hO:OwnS w4 _ 3 v5 m5 s5:=hO;obtain⟨A5,c5,rfl,hmc5,_,_⟩:=hO.form;have HML:=Hd hO.len;replace H:=Hd (H.out.addOwn hb4 hO);clear hO hb4;by_cases he:e5=0
      ·subst he;obtain⟨n0,n1,n2,n3,n4,n5,n6⟩:=H.out.cells7 2 rfl;obtain⟨g0,g1,g2,g3⟩:=H.out.cells4 4 rfl;have CN:=ref9Note_any (w:=w4) (m5:Int) hnm HNL.out.note;rw[HNM.out] at CN;obtain⟨e6,hE⟩:∃ e6,noteE nm nd m5=e6:=⟨_,rfl⟩;have HE6:=Hd hE;unfold noteE at hE;rw[hE] at CN;clear hE
       go_wp2_with fail
       refine CN.mono ?_;rintro e8 w8 ⟨⟨v8,m8,rfl,_⟩,hb8⟩;replace H:=Hd (H.out.below hb8);clear CN hb8 n0 n1 n2 n3 n4 n5 n6 g0 g1 g2 g3;by_cases he6:e6=0
       ·subst he6;have HG2:=Hd (show shapesGo nm (acc++[s5]) (G.nodes.drop (j+1))=shapesGo nm [] G.nodes by have h7:=HGD.out;rw[shapesGo,if_pos HIN.out,HR.out,if_pos rfl,HML.out,HE6.out,if_pos rfl] at h7;exact h7)
        go_wp2_with (at_builtin;refine wpList_append_lst rfl (.tmp 83) (.tmp 85) 35 rfl Tryz.underlying35 H.out 3 rfl rfl _ rfl ?c1 ?_)
        case c1=>omega
        intro v9 w9 h9;have h10:=Sep.tail_ (Sep.tail_ (Sep.perm h9 (l' := [_,_,.row 22 1 v9 (j+1) (us++[.slice A5 m5 c5]),.box w.heap.size 25 [.slice A na ca,.string G.names,.slice (some la) nb cb,.slice C nc cc],.ints A na G.sizes,.ints C nc G.outs]++([Chunk.own 3 (.slice A5 m5 c5) m5 s5]++pool)) (by rw[← List.append_assoc];exact(List.perm_append_comm (l₁ := [Chunk.own 3 (.slice A5 m5 c5) m5 s5]) (l₂ := [_,_,_,_,_,_])).append_right pool)));have H10:=Hd h10;clear h9 h10;go_wp2;go_roundw
        case rel=>exact⟨j+1,us++[Value.slice A5 m5 c5],Chunk.own 3 (.slice A5 m5 c5) m5 s5::pool,_,acc++[s5],rfl,by go_num,by omega,by rw[List.length_append,List.length_singleton,HACC.out],HP.out.more,HG2.out,H10.out⟩
        case measure=>simp[intOf];omega
       ·have dE:(e6 != 0)=true:=by simpa using he6
        have HX:=Hd (shapesR_go HM.out hl48.out (by rw[HNM.out,← HGD.out,shapesGo,if_pos HIN.out,HR.out,if_pos rfl,HML.out,HE6.out,if_neg he6]) he6);clear he6;go_wp2;go_ret2;rw[HX.out];exact⟨⟨none,0,0,rfl,Nat.le_refl _,lils_nil _⟩,H.out.base⟩
      ·have dE:(e5 != 0)=true:=by simpa using he
       have HX:=Hd (shapesR_go HM.out hl48.out (by rw[HNM.out,← HGD.out,shapesGo,if_pos HIN.out,HR.out,if_neg he]) he);clear he;go_wp2;go_ret2;rw[HX.out];exact⟨⟨none,0,0,rfl,Nat.le_refl _,lils_nil _⟩,H.out.base⟩
   ·obtain rfl:j=nb:=by omega
    have HEND:=Hd (show shapesGo nm [] G.nodes=(0,acc) by rw[← HGO.out,List.drop_eq_nil_of_le (by have:=HBL.out;omega),shapesGo]);have HXE:=Hd (shapesR_end HM.out hl48.out (by rw[HNM.out];exact HEND.out))
    go_wp2_with fail
    clear g0 g1 g2 g3
    go_loopw [91] (fun iv wr=>∃ q:Nat,iv=.int .i64 q∧q≤nc∧(∀(i:Nat) (x:Int),G.outs[i]? = some x→i<q→0≤x∧x<j)∧Sep w wr (.row 22 1 lx j us::.box w.heap.size 25 [.slice A na ca,.string G.names,.slice B j cb,.slice C nc cc]::.ints A na G.sizes::.ints C nc G.outs::pool)) (fun iv _=>nc-(intOf iv).toNat)
    case atStart=>exact⟨0,rfl,by omega,by omega,H.out⟩
    case round =>
     clear H;obtain⟨q,rfl,hq,hAll,hS⟩:=hrel;have H:=Hd hS;have HA:=Hd hAll;clear hS hAll;obtain⟨g0,g1,g2,g3⟩:=H.out.cells4 1 rfl;by_cases hlq:q<nc
     ·obtain⟨sa,x,hsA,_,hx,hcx,_⟩:=(H.out.oldInts 3 rfl).at_ (k:=q) hlq;subst hsA;by_cases h1:x<0
      ·have d1:decide (x<0)=true:=by simpa using h1
       have HX:=Hd (HXE.out.trans (by rw[outs_bad hx (by have:=HBL.out;omega)];rfl:_=((23:Int),([]:List (List Int)))));clear hx;go_wp2;go_ret2;rw[HX.out];exact⟨⟨none,0,0,rfl,Nat.le_refl _,lils_nil _⟩,H.out.base⟩
      obtain⟨xx,rfl⟩:=Int.eq_ofNat_of_zero_le (by omega:0≤x);have d1:decide ((xx:Int)<0)=false:=by simp
      by_cases h2:j≤xx
      ·have d2:decide (j≤xx)=true:=by simpa using h2
       have HX:=Hd (HXE.out.trans (by rw[outs_bad hx (by have:=HBL.out;omega)];rfl:_=((23:Int),([]:List (List Int)))));clear hx;go_wp2;go_ret2;rw[HX.out];exact⟨⟨none,0,0,rfl,Nat.le_refl _,lils_nil _⟩,H.out.base⟩
      have d2:decide (j≤xx)=false:=by simpa using h2
      have HXX:=Hd hx;clear hx;go_wp2;go_roundw
      case rel=>exact⟨q+1,by go_num,by omega,fun i y hi hi2=>by
       rcases Nat.lt_or_ge i q with hij|hij
       ·exact HA.out i y hi hij
       ·obtain rfl:i=q:=by omega
        have h9:=HXX.out
        rw[hi] at h9;injection h9 with h9;omega,H.out⟩
      case measure=>simp[intOf];omega
     ·obtain rfl:q=nc:=by omega
      have HX:=Hd (HXE.out.trans (if_pos (outs_good fun i x hi=>by rw[HBL.out];exact HA.out i x hi (by have:=HCL.out;have:=(List.getElem?_eq_some_iff.1 hi).1;omega))));obtain⟨Al,cl,hv,hcl2,hLi⟩:=pool_lils 0 H.out rfl HP.out HACC.out (by omega) 4 (fun i=>rfl);subst hv;have HLI:=Hd hLi;clear hLi;go_wp2;go_ret2;rw[HX.out];exact⟨⟨Al,_,cl,rfl,hcl2,HLI.out⟩,H.out.base⟩
end Go.Proofs.YtnnmplkgenhofaaGreat
