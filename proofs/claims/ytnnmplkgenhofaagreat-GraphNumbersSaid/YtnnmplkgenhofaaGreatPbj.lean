import Derived.Test.YtnnmplkgenhofaaGreatPae
import Derived.Test.YtnnmplkgenhofaaGreatPbe
import Derived.Test.YtnnmplkgenhofaaGreatPbf
import Derived.Test.YtnnmplkgenhofaaGreatPbi
set_option maxRecDepth 100000
set_option maxHeartbeats 12800000
namespace Go.Proofs.YtnnmplkgenhofaaGreat
open Go.RowKit
structure KS where
 nodes:List NodeV
 shapes:List (List Int)
 at_:Nat
def noted (nd:NodeV) (t:ByteArray):NodeV:=⟨nd.op,nd.ins,nd.shape,nd.a,nd.n,nd.how,t⟩
noncomputable def kPut (xs:List Int) (sz:Nat) (nm:List Int) (N:List NodeV) (L:List (List Int)) (nd:NodeV) (z:List Int) (b:Nat):KS :=
 if tv xs b 3=0 then⟨N++[noted nd (textF nm (kSpec xs sz z.length (ta xs b 3) (List.replicate sz false)).1)],L++[z],(kSpec xs sz z.length (ta xs b 3) (List.replicate sz false)).2⟩
 else⟨N++[nd],L++[z],ta xs b 3⟩
noncomputable def kStep (xs:List Int) (sz:Nat) (nm:List Int) (S:KS):KS :=
 if (shapeR (kNode xs S.at_ S.shapes).1 (insOf S.shapes (kNode xs S.at_ S.shapes).1.ins)).1=0∧Sh.size (shapeR (kNode xs S.at_ S.shapes).1 (insOf S.shapes (kNode xs S.at_ S.shapes).1.ins)).2≤400 then
  kPut xs sz nm S.nodes S.shapes (kNode xs S.at_ S.shapes).1 (shapeR (kNode xs S.at_ S.shapes).1 (insOf S.shapes (kNode xs S.at_ S.shapes).1.ins)).2 (kNode xs S.at_ S.shapes).2
 else⟨S.nodes,S.shapes,(kNode xs S.at_ S.shapes).2⟩
noncomputable def kGo (xs:List Int) (sz:Nat) (nm:List Int):Nat→KS→KS
 | 0,S=>S
 | k+1,S=>kGo xs sz nm k (kStep xs sz nm S)
def kOuts (xs:List Int) (m:Nat):Nat→Nat→List Int
 | 0,_=>[]
 | k+1,a=>if m=0 then [] else(if tv xs (ta xs a m) 2=0 then(m:Int)-1 else tv xs a m)::kOuts xs m k (ta xs (ta xs a m) 2)
noncomputable def kBody (xs:List Int):KS:=kGo xs (kMesh xs 0).1.length (runesOf (kMesh xs 0).2) (1+tv xs (ta xs 0 10) 9).toNat ⟨[],[],ta xs (ta xs 0 10) 9⟩
noncomputable def kGraph (xs:List Int):GraphV :=
 ⟨(kMesh xs 0).1,(kMesh xs 0).2,(kBody xs).nodes,kOuts xs (kBody xs).shapes.length (1+tv xs (kBody xs).at_ 3).toNat (ta xs (kBody xs).at_ 3)⟩
theorem kSpec_le {xs:List Int} {ns n:Nat} (h:xs.length=n):∀(m a:Nat) (used:List Bool),a≤n→(kSpec xs ns m a used).2≤n∧(kSpec xs ns m a used).1.length=m
 | 0,a,used,ha=>⟨ha,rfl⟩
 | m+1,a,used,ha=>by
  have h1:=ta_le 2 h ha;have h2:=ta_le (ns:Int) h h1;unfold kSpec
  split
  ·split
   ·split
    ·obtain⟨q1,q2⟩:=kSpec_le h m _ (used.set (tv xs (ta xs a 2) ns).toNat true) h2;exact⟨q1,by rw[List.length_cons,q2]⟩
    ·obtain⟨q1,q2⟩:=kSpec_le h m _ used h2;exact⟨q1,by rw[List.length_cons,q2]⟩
   ·obtain⟨q1,q2⟩:=kSpec_le h m _ used h1;exact⟨q1,by rw[List.length_cons,q2]⟩
  ·obtain⟨q1,q2⟩:=kSpec_le h m _ used ha;exact⟨q1,by rw[List.length_cons,q2]⟩
theorem kStep_skip {xs:List Int} {sz:Nat} {nm:List Int} {N:List NodeV} {L:List (List Int)} {a:Nat} {nd:NodeV} {b:Nat} {r:Int × List Int} (h1:kNode xs a L=(nd,b)) (h2:shapeR nd (insOf L nd.ins)=r) (h:¬ (r.1=0∧Sh.size r.2≤400)):kStep xs sz nm ⟨N,L,a⟩=⟨N,L,b⟩:=by
 unfold kStep;simp only[h1,h2];rw[if_neg h]
theorem kStep_put {xs:List Int} {sz:Nat} {nm:List Int} {N:List NodeV} {L:List (List Int)} {a:Nat} {nd:NodeV} {b:Nat} {r:Int × List Int} (h1:kNode xs a L=(nd,b)) (h2:shapeR nd (insOf L nd.ins)=r) (h:r.1=0∧Sh.size r.2≤400):kStep xs sz nm ⟨N,L,a⟩=kPut xs sz nm N L nd r.2 b:=by
 unfold kStep;simp only[h1,h2];rw[if_pos h]
theorem kMesh_small (xs:List Int) (a:Nat):(kMesh xs a).1.length≤3∧(kMesh xs a).2.size≤5:=by
 have h:∀ p∈meshT,p.1.length≤3∧p.2.size≤5:=by decide
 rw[kMesh,List.getD_eq_getElem?_getD]
 cases e:meshT[(tv xs a 10).toNat]? with
 | none=>exact⟨by simp,by simp[ByteArray.size]⟩
 | some p=>exact h p (List.mem_of_getElem? e)
theorem right_snoc {L:List (List Int)} {z:List Int} (h:∀ s∈L,Sh.right s=true) (g:Sh.right z=true):∀ s∈L++[z],Sh.right s=true:=by
 intro s hs;rcases List.mem_append.1 hs with hs|hs
 ·exact h s hs
 ·rw[List.mem_singleton.1 hs];exact g
theorem Tryz.sizeGraph:(Tryz.prog.info? 25).map (·.size)=some 4:=by kernel_rfl
theorem ret_graph {fn:Func} {R:Ending→World→Prop} {a:Act} {w0 w:World} {l:List Chunk} {p:Tmp} {g:Nat} {v0 v1 v2 v3:Value} (H:Sep w0 w l) (i:Nat) (hi:l[i]? = some (.box g 25 [v0,v1,v2,v3]))
  (h:fn.results=#[.cell p 25]) (hp:a.tmps.getD p undef=.pointer (some ⟨g,0,none⟩)) (hd:a.defers=[]) (hR:R (.returned (.agg #[v0,v1,v2,v3])) w):bodyPost Tryz.prog fn R .ret a w :=
 bodyPost_ret_by (results_cell_row h a.tmps w g _ _ _ _ hp (H.heap i hi) Tryz.underlying25 rfl Tryz.sizeGraph) hd hR
theorem graph_k {w:World} {A:Option Addr} {n c:Nat} {xs:List Int} (hI:Ints w A n xs) :
  Calls Tryz.prog 4 #[.slice A n c] w fun e w' => (∃ v,e=.returned v∧GraphIs w' v (kGraph xs))∧Below w.heap.size w w' := by
 have HXL:=Hd hI.len;have hnle:=hI.le;have HI:=Hd hI;clear hI;have h1:=(((Sep.nil w).allocBox w.heap.size 25 [.slice none 0 0,.string ⟨#[]⟩,.slice none 0 0,.slice none 0 0] rfl).allocBox (w.heap.size+1) 41 [.slice A n c,.int .i64 0] (by simp)).allocBox (w.heap.size+1+1) 25 [.slice none 0 0,.string ⟨#[]⟩,.slice none 0 0,.slice none 0 0] (by simp)
 go_enter Tryz.func4,Tryz.ntmps4
 go_upto_region 3 with fail
 generalize ((w.alloc (.cells #[.slice none 0 0,.string ⟨#[]⟩,.slice none 0 0,.slice none 0 0] 25)).alloc (.cells #[.slice A n c,.int .i64 0] 41)).alloc (.cells #[.slice none 0 0,.string ⟨#[]⟩,.slice none 0 0,.slice none 0 0] 25)=W at *;have H:=Hd h1;clear h1
 go_wp2_with fail
 refine(mesh_k (a:=0) H.out (i:=1) rfl HI.out (Nat.zero_le _)).mono ?_;rintro e1 w1 ⟨vS,mS,rfl,l1,hK,hS⟩;have e1:=hK.eq;subst e1;clear hK;obtain⟨AS,cS,hv,hcS,_,_⟩:=(hS.ownS 0 rfl).form;subst hv;have hKm:=kMesh_small xs 0;obtain⟨⟨sz,nms⟩,hM⟩:∃ r,kMesh xs 0=r:=⟨_,rfl⟩;rw[hM] at hS hKm ⊢;have HM:=Hd hM;clear hM;replace hS:Sep w w1 _:=hS;obtain⟨a1,ha1⟩:∃ r,ta xs 0 10=r:=⟨_,rfl⟩;have ba1:=ta_le 10 HXL.out (show 0≤n by omega);rw[ha1] at hS ba1;have HA1:=Hd ha1;clear ha1;replace H:=Hd (show Sep w w1 ([.own 3 (.slice AS mS cS) mS sz,.box (w.heap.size+1+1) 25 [.slice none 0 0,.string ⟨#[]⟩,.slice none 0 0,.slice none 0 0],TB (w.heap.size+1) A n c (a1),.box w.heap.size 25 [.slice none 0 0,.string ⟨#[]⟩,.slice none 0 0,.slice none 0 0]]) from hS);clear hS;have hmS:mS≤3:=by have:=(H.out.ownInts 0 rfl).2.2.len;have:=hKm.1;have h9:sz.length≤3:=this;omega
 have hnms:nms.size≤5:=hKm.2;obtain⟨g0,g1,g2,g3⟩:=H.out.cells4 1 rfl;obtain ⟨fg0,fg1,fg2,fg3⟩:=H.out.f4 1 rfl;have h5:=(H.out.setBox 1 0 (.slice AS mS cS) rfl).setBox 1 1 (.string nms) rfl
 go_upto_region 5 with fail
 generalize (w1.setCell ⟨w.heap.size+1+1,0,none⟩ (.slice AS mS cS)).setCell ⟨w.heap.size+1+1,1,none⟩ (.string nms)=w2 at *;replace H:=Hd h5;clear h5 fg0 fg1 fg2 fg3 g0 g1 g2 g3
 go_wp2_with fail
 refine(next_k 9 H.out (i:=2) rfl HI.out ba1 ⟨by omega,by omega⟩).mono ?_;rintro e3 w3 ⟨rfl,l1,hK,hS⟩;have e1:=hK.eq;subst e1;clear hK;have br0:=tv_nonneg xs a1 9;have br1:=tv_lt xs a1 (show(0:Int)<9 by omega);have ba2:=ta_le 9 HXL.out ba1;obtain⟨r0,hr0⟩:=Int.eq_ofNat_of_zero_le br0;obtain⟨a2,ha2⟩:∃ r,ta xs a1 9=r:=⟨_,rfl⟩;rw[hr0] at br1 ⊢;rw[ha2] at hS ba2;have HR0:=Hd hr0;have HA2:=Hd ha2;clear hr0 ha2 br0;replace H:=Hd (show Sep w w3 ([.own 3 (.slice AS mS cS) mS sz,.box (w.heap.size+1+1) 25 [.slice AS mS cS,.string nms,.slice none 0 0,.slice none 0 0],TB (w.heap.size+1) A n c (a2),.box w.heap.size 25 [.slice none 0 0,.string ⟨#[]⟩,.slice none 0 0,.slice none 0 0]]) from hS);clear hS;have h7:=(H.out.addRowNil 34 7).addRowNil 22 1;replace H:=Hd h7;clear h7;obtain⟨nm,hnm⟩:∃ nm,runesOf nms=nm:=⟨_,rfl⟩;have HNM:=Hd hnm;clear hnm;obtain⟨FS,hFS⟩:∃ FS,kGo xs mS nm (r0+1) ⟨[],[],a2⟩=FS:=⟨_,rfl⟩;have HFS:=Hd hFS;clear hFS;have HBODY:=Hd (show kBody xs=FS by rw[kBody,HM.out,HA1.out,HA2.out,HR0.out,← HFS.out,show(1+(r0:Int)).toNat=r0+1 by omega];simp only[];rw[HNM.out,show sz.length=mS from(H.out.ownInts 2 rfl).2.2.len])
 go_wp2_with fail
 go_loopw [5,6] (fun lv kv wr=>∃(k m a:Nat) (N:List NodeV) (L:List (List Int)) (usN usL:List Value) (pool:List Chunk) (vN vL:Value),vL=lv∧kv=.int .i64 k∧m+k≤9∧a≤n∧N.length=m∧L.length=m∧(∀ s∈L,Sh.right s=true)∧PoolN usN N pool∧PoolL usL L pool∧kGo xs mS nm k ⟨N,L,a⟩=FS∧Sep w wr (.row 22 1 vL m usL::.row 34 7 vN m usN::.own 3 (.slice AS mS cS) mS sz::.box (w.heap.size+1+1) 25 [.slice AS mS cS,.string nms,vN,.slice none 0 0]::TB (w.heap.size+1) A n c (a)::.box w.heap.size 25 [.slice none 0 0,.string ⟨#[]⟩,.slice none 0 0,.slice none 0 0]::pool)) (fun _ kv _=>(intOf kv).toNat)
 case atStart=>exact⟨r0+1,0,a2,[],[],[],[],[],_,_,rfl,by go_num,by omega,ba2,rfl,rfl,by simp,poolN_nil,poolL_nil,HFS.out,H.out⟩
 case round =>
  clear H;obtain⟨k,m,a,N,L,usN,usL,pool,vN,vL,rfl,rfl,hmk,han,hNl,hLl,hrt,hPN,hPL,hgo,hS⟩:=hrel;have H:=Hd hS;have HPN:=Hd hPN;have HPL:=Hd hPL;have HGO:=Hd hgo;have HNL:=Hd hNl;have HLL:=Hd hLl;have HRT:=Hd hrt;clear hS hPN hPL hgo hNl hLl hrt;by_cases hk0:0<k
  ·obtain⟨k,rfl⟩:∃ j,k=j+1:=⟨k-1,by omega⟩;have hm9:m≤8:=by omega
   obtain⟨Al,cl,hv,hcl,hLK⟩:=lilsK_pool (i:=4) (g:=w.heap.size+1) (A:=A) (n:=n) (c:=c) 0 6 H.out rfl (by decide) HPL.out HLL.out (by omega) (fun j=>rfl) (by decide);subst hv;have CK:=node_k (cl:=cl) (fun s hs=>by have h1:=Sh.right_iff.1 (HRT.out s hs);exact⟨h1.1,h1.2.1⟩) H.out (i:=4) rfl HI.out han hLK;have hmd:=made_node (L:=L) HXL.out han;obtain⟨⟨nd,b⟩,hr⟩:∃ r,kNode xs a L=r:=⟨_,rfl⟩;rw[hr] at CK hmd;have HR:=Hd hr;have HMD:=Hd hmd;have hbn:b≤n:=hmd.at_;clear hr hmd hLK
   go_wp2_with fail
   refine CK.mono ?_;rintro e4 w4 ⟨vA,m1,vB,m2,vC,m3,rfl,l1,hK,hS⟩;have e1:=hK.eq;subst e1;clear hK CK;replace H:=Hd (show Sep w w4 (.own 3 vA m1 nd.ins::.own 3 vB m2 nd.shape::.own 3 vC m3 nd.a::.row 22 1 (.slice Al m cl) m usL::.row 34 7 vN m usN::.own 3 (.slice AS mS cS) mS sz::.box (w.heap.size+1+1) 25 [.slice AS mS cS,.string nms,vN,.slice none 0 0]::TB (w.heap.size+1) A n c (b)::.box w.heap.size 25 [.slice none 0 0,.string ⟨#[]⟩,.slice none 0 0,.slice none 0 0]::pool) from hS);clear hS;obtain⟨A1,c1,hv,hcA1,_,_⟩:=(H.out.ownS 0 rfl).form;subst hv;obtain⟨A2,c2,hv,hcA2,_,_⟩:=(H.out.ownS 1 rfl).form;subst hv;obtain⟨A3,c3,hv,hcA3,_,_⟩:=(H.out.ownS 2 rfl).form;subst hv;have h3:=H.out.allocBox w4.heap.size 34 [.int .i64 nd.op,.slice A1 m1 c1,.slice A2 m2 c2,.slice A3 m3 c3,.int .i64 nd.n,.int .i64 nd.how,.string nd.note] rfl
   go_upto_region 9 with fail
   generalize w4.alloc (.cells #[.int .i64 nd.op,.slice A1 m1 c1,.slice A2 m2 c2,.slice A3 m3 c3,.int .i64 nd.n,.int .i64 nd.how,.string nd.note] 34)=w5 at *;generalize w4.heap.size=gx at *;have h4:=h3.addRowNil 22 1;replace H:=Hd h4;clear h3 h4;obtain⟨x0,x1,x2,x3,x4,x5,x6⟩:=H.out.cells7 1 rfl;have hm1l:=Hd (H.out.ownInts 2 rfl).2.2.len;have hm13:m1≤3:=by have:=HMD.out.few;have h9:nd.ins.length=m1:=hm1l.out;have h8:nd.ins.length≤3:=this;omega
   go_wp2_with fail
   clear x0 x1 x2 x3 x4 x5 x6
   go_loopw [37,8] (fun iv ov wr=>∃(q:Nat) (us2:List Value) (lx:Value),lx=ov∧iv=.int .i64 q∧q≤m1∧PoolL us2 (insOf L (nd.ins.take q)) pool∧Sep w wr (.row 22 1 lx q us2::.box gx 34 [.int .i64 nd.op,.slice A1 m1 c1,.slice A2 m2 c2,.slice A3 m3 c3,.int .i64 nd.n,.int .i64 nd.how,.string nd.note]::.own 3 (.slice A1 m1 c1) m1 nd.ins::.own 3 (.slice A2 m2 c2) m2 nd.shape::.own 3 (.slice A3 m3 c3) m3 nd.a::.row 22 1 (.slice Al m cl) m usL::.row 34 7 vN m usN::.own 3 (.slice AS mS cS) mS sz::.box (w.heap.size+1+1) 25 [.slice AS mS cS,.string nms,vN,.slice none 0 0]::TB (w.heap.size+1) A n c (b)::.box w.heap.size 25 [.slice none 0 0,.string ⟨#[]⟩,.slice none 0 0,.slice none 0 0]::pool)) (fun iv _ _=>m1-(intOf iv).toNat)
   case atStart=>exact⟨0,[],_,rfl,rfl,by omega,poolL_nil,H.out⟩
   case round =>
    clear H;obtain⟨q,us2,lx,rfl,rfl,hq,hP2,hS⟩:=hrel;have H:=Hd hS;have HP2:=Hd hP2;clear hS hP2;by_cases hlq:q<m1
    ·obtain⟨sa,x,hsA,_,hx,hcx,_⟩:=((H.out.ownInts 2 rfl).2.2).at_ (k:=q) hlq;subst hsA;have hxb:=HMD.out.ins x (List.mem_of_getElem? hx);obtain⟨xx,rfl⟩:=Int.eq_ofNat_of_zero_le hxb.1;have hxm:xx<m:=by have:=HLL.out;have h9:(xx:Int)<(L.length:Int):=hxb.2;omega
     obtain⟨s,hs⟩:∃ s,L[xx]? = some s:=⟨_,List.getElem?_eq_getElem (by have:=HLL.out;omega)⟩;obtain⟨S5,n5,c5,p5,hu5,hp5⟩:=HPL.out.2 xx s hs;obtain⟨go,co,hv,hco⟩:=H.out.rowForm 5 rfl (by omega);injection hv with hv1 _ hv3
     subst hv1;subst hv3;have hcu:=pool_cell H.out 5 rfl hu5 hxm;rw[addrL0] at hcu
     have HQ2:=Hd (show PoolL (us2++[.slice S5 n5 c5]) (insOf L (nd.ins.take (q+1))) pool by
      have he:insOf L (nd.ins.take (q+1))=insOf L (nd.ins.take q)++[s]:=by
       rw[List.take_add_one,hx,insOf,insOf,List.map_append];simp[List.getD_eq_getElem?_getD,hs]
      rw[he];exact HP2.out.snoc hp5)
     clear hx hs hu5 hp5 hxb
     go_wp2_with (at_builtin;refine wpList_append_lst rfl (.tmp 41) (.tmp 46) 35 rfl Tryz.underlying35 H.out 0 rfl rfl _ rfl ?c1 ?_)
     case c1=>omega
     intro v9 w9 h9;have H9:=Hd h9;clear h9 hcu hcx;go_wp2;go_roundw
     case rel=>exact⟨q+1,us2++[Value.slice S5 n5 c5],_,rfl,by go_num,by omega,HQ2.out,H9.out⟩
     case measure=>simp[intOf];omega
    ·obtain rfl:q=m1:=by omega
     have hP3:=HP2.out;rw[List.take_of_length_le (by have h9:nd.ins.length=q:=hm1l.out;omega)] at hP3;obtain⟨Ai,ci,hv,hci,hLi⟩:=pool_lils 0 H.out rfl hP3 (by rw[insOf,List.length_map];exact hm1l.out) (by omega) 11 (fun i=>rfl);subst hv;clear hP3;have hi1:=H.out.ownInts 2 rfl;have hi2:=H.out.ownInts 3 rfl;have hi3:=H.out.ownInts 4 rfl;have CS:=ref10Shape_any (cl:=ci) (show NodeIs _ (.agg #[.int .i64 nd.op,.slice A1 q c1,.slice A2 m2 c2,.slice A3 m3 c3,.int .i64 nd.n,.int .i64 nd.how,.string nd.note]) nd from⟨A1,q,c1,A2,m2,c2,A3,m3,c3,rfl,⟨hi1.2.1,hi2.2.1,hi3.2.1,hi1.2.2,hi2.2.2,hi3.2.2,HMD.out.op,HMD.out.num,HMD.out.how,by rw[show nd.note=⟨#[]⟩ from HMD.out.note];decide⟩⟩) hLi;obtain⟨⟨e5,s5⟩,hR⟩:∃ r,shapeR nd (insOf L nd.ins)=r:=⟨_,rfl⟩;have hsr:=shape_right (nd:=nd) (L:=insOf L nd.ins);rw[hR] at CS hsr;have HSH:=Hd hR;have HSR:=Hd hsr;clear hLi hR hsr hi1 hi2 hi3;obtain⟨x0,x1,x2,x3,x4,x5,x6⟩:=H.out.cells7 1 rfl
     go_wp2_with fail
     refine CS.mono ?_;rintro e6 w6 ⟨⟨v5,m5,rfl,hO⟩,hb6⟩;clear CS x0 x1 x2 x3 x4 x5 x6;replace hO:OwnS w6 _ 3 v5 m5 s5:=hO;obtain⟨A5,c5,rfl,hmc5,_,_⟩:=hO.form;have HML:=Hd hO.len;replace H:=Hd (H.out.addOwn hb6 hO);clear hO hb6;by_cases he:e5=0
     ·subst he;have HS5:=Hd (show Sh.right s5=true from HSR.out rfl);clear HSR;have hsz:=Sh.size_bd s5;have CZ:=refSize_any (c:=c5) ((H.out.ownInts 0 rfl).2.2);obtain⟨z5,hz5⟩:∃ z,Sh.size s5=z:=⟨_,rfl⟩;rw[hz5] at CZ hsz;have HZ5:=Hd hz5;clear hz5;by_cases h400:400<z5
      ·have d4:decide (400<z5)=true:=by simpa using h400
       go_wp2_with fail
       refine CZ.mono ?_;rintro e7 w7 ⟨rfl,rfl⟩;clear CZ;have HG2:=Hd (show kGo xs mS nm k ⟨N,L,b⟩=FS by have h7:=HGO.out;rw[kGo,kStep_skip HR.out HSH.out (fun h=>by have h1:Sh.size s5≤400:=h.2;rw[HZ5.out] at h1;omega)] at h7;exact h7);have H2:=Hd (show Sep w _ (.row 22 1 (.slice Al m cl) m usL::.row 34 7 vN m usN::.own 3 (.slice AS mS cS) mS sz::.box (w.heap.size+1+1) 25 [.slice AS mS cS,.string nms,vN,.slice none 0 0]::TB (w.heap.size+1) A n c (b)::.box w.heap.size 25 [.slice none 0 0,.string ⟨#[]⟩,.slice none 0 0,.slice none 0 0]::pool) from Sep.pick (P:=[.own 3 (.slice A5 m5 c5) m5 s5,.row 22 1 (.slice Ai q ci) q us2,.box gx 34 [.int .i64 nd.op,.slice A1 q c1,.slice A2 m2 c2,.slice A3 m3 c3,.int .i64 nd.n,.int .i64 nd.how,.string nd.note],.own 3 (.slice A1 q c1) q nd.ins,.own 3 (.slice A2 m2 c2) m2 nd.shape,.own 3 (.slice A3 m3 c3) m3 nd.a,.row 22 1 (.slice Al m cl) m usL,.row 34 7 vN m usN,.own 3 (.slice AS mS cS) mS sz,.box (w.heap.size+1+1) 25 [.slice AS mS cS,.string nms,vN,.slice none 0 0],TB (w.heap.size+1) A n c (b),.box w.heap.size 25 [.slice none 0 0,.string ⟨#[]⟩,.slice none 0 0,.slice none 0 0]]) (l' := [.row 22 1 (.slice Al m cl) m usL,.row 34 7 vN m usN,.own 3 (.slice AS mS cS) mS sz,.box (w.heap.size+1+1) 25 [.slice AS mS cS,.string nms,vN,.slice none 0 0],TB (w.heap.size+1) A n c (b),.box w.heap.size 25 [.slice none 0 0,.string ⟨#[]⟩,.slice none 0 0,.slice none 0 0]]) (l1:=pool) (show Sep w _ ([.own 3 (.slice A5 m5 c5) m5 s5,.row 22 1 (.slice Ai q ci) q us2,.box gx 34 [.int .i64 nd.op,.slice A1 q c1,.slice A2 m2 c2,.slice A3 m3 c3,.int .i64 nd.n,.int .i64 nd.how,.string nd.note],.own 3 (.slice A1 q c1) q nd.ins,.own 3 (.slice A2 m2 c2) m2 nd.shape,.own 3 (.slice A3 m3 c3) m3 nd.a,.row 22 1 (.slice Al m cl) m usL,.row 34 7 vN m usN,.own 3 (.slice AS mS cS) mS sz,.box (w.heap.size+1+1) 25 [.slice AS mS cS,.string nms,vN,.slice none 0 0],TB (w.heap.size+1) A n c (b),.box w.heap.size 25 [.slice none 0 0,.string ⟨#[]⟩,.slice none 0 0,.slice none 0 0]]++pool) from H.out) [6,7,8,9,10,11] rfl (by decide));go_wp2;go_roundw
       case rel=>exact⟨k,m,b,N,L,usN,usL,pool,vN,_,rfl,by go_num,by omega,hbn,HNL.out,HLL.out,HRT.out,HPN.out,HPL.out,HG2.out,H2.out⟩
       case measure=>simp[intOf]
      ·have d4:decide (400<z5)=false:=by simpa using h400
       have HPUT:=Hd (kStep_put (sz:=mS) (nm:=nm) (N:=N) HR.out HSH.out ⟨rfl,by show Sh.size s5≤400;rw[HZ5.out];omega⟩)
       go_wp2_with fail
       refine CZ.mono ?_;rintro e7 w7 ⟨rfl,rfl⟩;clear CZ
       go_wp2_with fail
       refine(next_k 3 H.out (i:=10) rfl HI.out hbn ⟨by omega,by omega⟩).mono ?_;rintro e8 w8 ⟨rfl,l1,hK,hS⟩;have e1:=hK.eq;subst e1;clear hK;have bt0:=tv_nonneg xs b 3;obtain⟨t3,ht3⟩:∃ r,tv xs b 3=r:=⟨_,rfl⟩;have bb3:=ta_le 3 HXL.out hbn;obtain⟨b3,hb3⟩:∃ r,ta xs b 3=r:=⟨_,rfl⟩;rw[ht3] at bt0 ⊢;rw[hb3] at hS bb3;have HT3:=Hd ht3;have HB3:=Hd hb3;clear ht3 hb3;replace H:=Hd (show Sep w w8 (.own 3 (.slice A5 m5 c5) m5 s5::.row 22 1 (.slice Ai q ci) q us2::.box gx 34 [.int .i64 nd.op,.slice A1 q c1,.slice A2 m2 c2,.slice A3 m3 c3,.int .i64 nd.n,.int .i64 nd.how,.string nd.note]::.own 3 (.slice A1 q c1) q nd.ins::.own 3 (.slice A2 m2 c2) m2 nd.shape::.own 3 (.slice A3 m3 c3) m3 nd.a::.row 22 1 (.slice Al m cl) m usL::.row 34 7 vN m usN::.own 3 (.slice AS mS cS) mS sz::.box (w.heap.size+1+1) 25 [.slice AS mS cS,.string nms,vN,.slice none 0 0]::TB (w.heap.size+1) A n c (b3)::.box w.heap.size 25 [.slice none 0 0,.string ⟨#[]⟩,.slice none 0 0,.slice none 0 0]::pool) from hS);clear hS;have hm54:m5≤4:=by have:=(Sh.right_iff.1 HS5.out).1;have h9:s5.length=m5:=HML.out;omega
       by_cases ht:t3=0
       ·subst ht
        go_upto_region 18 with fail
        obtain⟨⟨sp,b4⟩,hSp⟩:∃ r,kSpec xs mS m5 b3 (List.replicate mS false)=r:=⟨_,rfl⟩;have hsl:=kSpec_le (ns:=mS) HXL.out m5 b3 (List.replicate mS false) bb3;rw[hSp] at hsl;have HSP:=Hd hSp;have hb4n:b4≤n:=hsl.1;have hspl:sp.length=m5:=hsl.2;have HSPL:=Hd hspl;clear hsl hspl;obtain⟨txt,htx⟩:∃ x,textF nm sp=x:=⟨_,rfl⟩;have hts:txt.size≤16:=by have:=textF_size nm sp;rw[htx] at this;have:=HSPL.out;omega
        have HTX:=Hd htx;clear htx;have HPUT2:=Hd (show kPut xs mS nm N L nd s5 b=⟨N++[noted nd txt],L++[s5],b4⟩ by rw[kPut,HT3.out,if_pos rfl,HB3.out,show s5.length=m5 from HML.out,HSP.out,HTX.out]);have HD:=Hd H.out.drew;have CSP:=spec_k (A1:=AS) (ns:=mS) (c1:=cS) (r:=m5) (by omega) (by omega) HD.out (i:=10) rfl HI.out bb3;rw[hSp] at CSP;clear hSp;obtain ⟨ci0,ci1⟩:=HD.out.z2 9 rfl;refine wp_region_held_drew (S:=(fun w' => w'.cell? ⟨w.heap.size+1+1,0,none⟩=some (.slice AS mS cS)∧w'.cell? ⟨w.heap.size+1+1,1,none⟩=some (.string nms))) (by kernel_rfl) ?_ (fun hq_=>?_)
        ·exact⟨ci0,ci1⟩
        refine zW 0 hq_ ?_
        try simp only[pA]
        refine zW 1 hq_ ?_
        try simp only[pA]
        refine zW 2 hq_ ?_
        try simp only[pA]
        refine zW 3 hq_ ?_
        try simp only[pA]
        refine zW 4 hq_ ?_
        try simp only[pA]
        refine zW 5 hq_ ?_
        try simp only[pA]
        refine zW 6 hq_ ?_
        try simp only[pA]
        refine e1 7 fun K hK=>?_
        first|(refine effU ?_ ?_;(focus rfl))|(go_simp;(go_at_call 16;refine CSP.mono ?_;rintro e9 x1 ⟨vs,ms,rfl,l1,hK,hS⟩;have e1:=hK.eq;subst e1;clear hK;obtain⟨As,cs,hv,_,_,_⟩:=(hS.ownS 0 rfl).form;subst hv;have H1:=Hd (show Sep w x1 (.own 3 (.slice As ms cs) ms sp::.own 3 (.slice A5 m5 c5) m5 s5::.row 22 1 (.slice Ai q ci) q us2::.box gx 34 [.int .i64 nd.op,.slice A1 q c1,.slice A2 m2 c2,.slice A3 m3 c3,.int .i64 nd.n,.int .i64 nd.how,.string nd.note]::.own 3 (.slice A1 q c1) q nd.ins::.own 3 (.slice A2 m2 c2) m2 nd.shape::.own 3 (.slice A3 m3 c3) m3 nd.a::.row 22 1 (.slice Al m cl) m usL::.row 34 7 vN m usN::.own 3 (.slice AS mS cS) mS sz::.box (w.heap.size+1+1) 25 [.slice AS mS cS,.string nms,vN,.slice none 0 0]::TB (w.heap.size+1) A n c (b4)::.box w.heap.size 25 [.slice none 0 0,.string ⟨#[]⟩,.slice none 0 0,.slice none 0 0]::pool) from hS);clear hS;obtain ⟨cm0,cm1⟩:=H1.out.z2 10 rfl);go_wp2_with fail)
        refine zK hK ?_ ⟨cm0,cm1⟩;clear hK K hq_;intro hq_
        try simp only[pA]
        refine e1 8 fun K hK=>?_
        first|(refine effU ?_ ?_;(focus rfl))|(go_simp;(go_at_call 15;have CT:=ref9Text_any (c:=cs) (s:=nms) (by omega) ((H1.out.ownInts 0 rfl).2.2) (by have:=(H1.out.ownInts 0 rfl).2.2.len;have:=HSPL.out;omega);rw[HNM.out,HTX.out] at CT;refine CT.mono ?_;rintro e10 x2 ⟨rfl,hb2⟩;have H2:=Hd ((H1.out.below hb2).tail_);clear hb2 CT;obtain ⟨cn0,cn1⟩:=H2.out.z2 9 rfl);go_wp2_with fail)
        refine zK hK ?_ ⟨cn0,cn1⟩;clear hK K hq_;intro hq_
        try simp only[pA]
        refine zW 9 hq_ ?_
        try simp only[pA]
        refine e1 10 fun K hK=>?_
        (have fx:=H2.out.frozenBox 2 6 rfl;have cx:=H2.out.cell 2 6 rfl rfl;have HS:=Hd (H2.out.setBox 2 6 (.string txt) rfl);obtain ⟨cg0,cg1⟩:=HS.out.z2 9 rfl)
        go_simp
        try go_wp2_with fail
        refine zK hK ?_ ⟨cg0,cg1⟩;clear hK K hq_;intro hq_
        try simp only[pA]
        refine wpAnyH_done (by kernel_rfl) ?_ _;replace H:=HS;clear HS ci0 ci1 cm0 cm1 cn0 cn1 cg0 cg1 HD H1 H2 fx cx CSP;generalize x2.setCell ⟨gx,6,none⟩ (.string txt)=w9 at *;have g2:=H.out.cell 9 2 rfl rfl;obtain⟨x0,x1,x2,x3,x4,x5,x6⟩:=H.out.cells7 2 rfl
        go_wp2_with (at_builtin;refine wpList_append_nod rfl (.tmp 76) (.tmp 78) 23 rfl Tryz.underlying23 H.out 7 rfl rfl _ rfl rfl rfl rfl rfl rfl rfl rfl ?c1 ?_)
        case c1=>omega
        intro vN2 w9 h9;have H9:=Hd h9;clear h9 g2 x0 x1 x2 x3 x4 x5 x6
        go_wp2_with (at_builtin;refine wpList_append_lst rfl (.tmp 80) (.tmp 82) 35 rfl Tryz.underlying35 H9.out 6 rfl rfl _ rfl ?c1 ?_)
        case c1=>omega
        intro vL2 w10 h10;obtain⟨gN,cN,hv,hcN⟩:=h10.rowForm 7 rfl (by omega);subst hv;have H10:=Hd h10;clear h10;have fg:=H10.out.frozenBox 9 2 rfl;have cg:=H10.out.cell 9 2 rfl rfl;have h11:=H10.out.setBox 9 2 (.slice (some ⟨gN,0,none⟩) (m+1) cN) rfl;have H11:=Hd (show Sep w _ (.row 22 1 vL2 (m+1) (usL++[.slice A5 m5 c5])::.row 34 7 (.slice (some ⟨gN,0,none⟩) (m+1) cN) (m+1) (usN++[.int .i64 nd.op,.slice A1 q c1,.slice A2 m2 c2,.slice A3 m3 c3,.int .i64 nd.n,.int .i64 nd.how,.string txt])::.own 3 (.slice AS mS cS) mS sz::.box (w.heap.size+1+1) 25 [.slice AS mS cS,.string nms,.slice (some ⟨gN,0,none⟩) (m+1) cN,.slice none 0 0]::TB (w.heap.size+1) A n c (b4)::.box w.heap.size 25 [.slice none 0 0,.string ⟨#[]⟩,.slice none 0 0,.slice none 0 0]::.own 3 (.slice A1 q c1) q nd.ins::.own 3 (.slice A2 m2 c2) m2 nd.shape::.own 3 (.slice A3 m3 c3) m3 nd.a::.own 3 (.slice A5 m5 c5) m5 s5::pool) from Sep.pick (P:=[.own 3 (.slice A5 m5 c5) m5 s5,.row 22 1 (.slice Ai q ci) q us2,.box gx 34 [.int .i64 nd.op,.slice A1 q c1,.slice A2 m2 c2,.slice A3 m3 c3,.int .i64 nd.n,.int .i64 nd.how,.string txt],.own 3 (.slice A1 q c1) q nd.ins,.own 3 (.slice A2 m2 c2) m2 nd.shape,.own 3 (.slice A3 m3 c3) m3 nd.a,.row 22 1 vL2 (m+1) (usL++[.slice A5 m5 c5]),.row 34 7 (.slice (some ⟨gN,0,none⟩) (m+1) cN) (m+1) (usN++[.int .i64 nd.op,.slice A1 q c1,.slice A2 m2 c2,.slice A3 m3 c3,.int .i64 nd.n,.int .i64 nd.how,.string txt]),.own 3 (.slice AS mS cS) mS sz,.box (w.heap.size+1+1) 25 [.slice AS mS cS,.string nms,.slice (some ⟨gN,0,none⟩) (m+1) cN,.slice none 0 0],TB (w.heap.size+1) A n c (b4),.box w.heap.size 25 [.slice none 0 0,.string ⟨#[]⟩,.slice none 0 0,.slice none 0 0]]) (l' := [.row 22 1 vL2 (m+1) (usL++[.slice A5 m5 c5]),.row 34 7 (.slice (some ⟨gN,0,none⟩) (m+1) cN) (m+1) (usN++[.int .i64 nd.op,.slice A1 q c1,.slice A2 m2 c2,.slice A3 m3 c3,.int .i64 nd.n,.int .i64 nd.how,.string txt]),.own 3 (.slice AS mS cS) mS sz,.box (w.heap.size+1+1) 25 [.slice AS mS cS,.string nms,.slice (some ⟨gN,0,none⟩) (m+1) cN,.slice none 0 0],TB (w.heap.size+1) A n c (b4),.box w.heap.size 25 [.slice none 0 0,.string ⟨#[]⟩,.slice none 0 0,.slice none 0 0],.own 3 (.slice A1 q c1) q nd.ins,.own 3 (.slice A2 m2 c2) m2 nd.shape,.own 3 (.slice A3 m3 c3) m3 nd.a,.own 3 (.slice A5 m5 c5) m5 s5]) (l1:=pool) (show Sep w _ ([.own 3 (.slice A5 m5 c5) m5 s5,.row 22 1 (.slice Ai q ci) q us2,.box gx 34 [.int .i64 nd.op,.slice A1 q c1,.slice A2 m2 c2,.slice A3 m3 c3,.int .i64 nd.n,.int .i64 nd.how,.string txt],.own 3 (.slice A1 q c1) q nd.ins,.own 3 (.slice A2 m2 c2) m2 nd.shape,.own 3 (.slice A3 m3 c3) m3 nd.a,.row 22 1 vL2 (m+1) (usL++[.slice A5 m5 c5]),.row 34 7 (.slice (some ⟨gN,0,none⟩) (m+1) cN) (m+1) (usN++[.int .i64 nd.op,.slice A1 q c1,.slice A2 m2 c2,.slice A3 m3 c3,.int .i64 nd.n,.int .i64 nd.how,.string txt]),.own 3 (.slice AS mS cS) mS sz,.box (w.heap.size+1+1) 25 [.slice AS mS cS,.string nms,.slice (some ⟨gN,0,none⟩) (m+1) cN,.slice none 0 0],TB (w.heap.size+1) A n c (b4),.box w.heap.size 25 [.slice none 0 0,.string ⟨#[]⟩,.slice none 0 0,.slice none 0 0]]++pool) from h11) [6,7,8,9,10,11,3,4,5,0] rfl (by decide));clear h11;have HG2:=Hd (show kGo xs mS nm k ⟨N++[noted nd txt],L++[s5],b4⟩=FS by have h7:=HGO.out;rw[kGo,HPUT.out,HPUT2.out] at h7;exact h7);go_wp2;go_roundw
        case rel=>exact⟨k,m+1,b4,N++[noted nd txt],L++[s5],usN++([.int .i64 nd.op,.slice A1 q c1,.slice A2 m2 c2,.slice A3 m3 c3,.int .i64 nd.n,.int .i64 nd.how,.string txt]:List Value),usL++([.slice A5 m5 c5]:List Value),(Chunk.own 3 (.slice A1 q c1) q nd.ins::Chunk.own 3 (.slice A2 m2 c2) m2 nd.shape::Chunk.own 3 (.slice A3 m3 c3) m3 nd.a::Chunk.own 3 (.slice A5 m5 c5) m5 s5::pool),_,_,rfl,by go_num,by omega,hb4n,by rw[List.length_append,List.length_singleton,HNL.out],by rw[List.length_append,List.length_singleton,HLL.out],right_snoc HRT.out HS5.out,((((HPN.out.shift (c:=Chunk.own 3 (.slice A5 m5 c5) m5 s5)).shift (c:=Chunk.own 3 (.slice A3 m3 c3) m3 nd.a)).shift (c:=Chunk.own 3 (.slice A2 m2 c2) m2 nd.shape)).shift (c:=Chunk.own 3 (.slice A1 q c1) q nd.ins)).snoc (nd:=noted nd txt) (p:=0) (q:=1) (r:=2) rfl rfl rfl HMD.out.op HMD.out.num HMD.out.how (show txt.size≤_ by omega),((((HPL.out.shift (c:=Chunk.own 3 (.slice A5 m5 c5) m5 s5)).shift (c:=Chunk.own 3 (.slice A3 m3 c3) m3 nd.a)).shift (c:=Chunk.own 3 (.slice A2 m2 c2) m2 nd.shape)).shift (c:=Chunk.own 3 (.slice A1 q c1) q nd.ins)).snoc (p:=3) rfl,HG2.out,H11.out⟩
        case measure=>simp[intOf]
       ·have d3:(t3==0)=false:=by simpa using ht
        have HPUT2:=Hd (show kPut xs mS nm N L nd s5 b=⟨N++[nd],L++[s5],b3⟩ by rw[kPut,HT3.out,if_neg ht,HB3.out]);clear ht;have g2:=H.out.cell 9 2 rfl rfl;obtain⟨x0,x1,x2,x3,x4,x5,x6⟩:=H.out.cells7 2 rfl
        go_wp2_with (at_builtin;refine wpList_append_nod rfl (.tmp 76) (.tmp 78) 23 rfl Tryz.underlying23 H.out 7 rfl rfl _ rfl rfl rfl rfl rfl rfl rfl rfl ?c1 ?_)
        case c1=>omega
        intro vN2 w9 h9;have H9:=Hd h9;clear h9 g2 x0 x1 x2 x3 x4 x5 x6
        go_wp2_with (at_builtin;refine wpList_append_lst rfl (.tmp 80) (.tmp 82) 35 rfl Tryz.underlying35 H9.out 6 rfl rfl _ rfl ?c1 ?_)
        case c1=>omega
        intro vL2 w10 h10;obtain⟨gN,cN,hv,hcN⟩:=h10.rowForm 7 rfl (by omega);subst hv;have H10:=Hd h10;clear h10;have fg:=H10.out.frozenBox 9 2 rfl;have cg:=H10.out.cell 9 2 rfl rfl;have h11:=H10.out.setBox 9 2 (.slice (some ⟨gN,0,none⟩) (m+1) cN) rfl;have H11:=Hd (show Sep w _ (.row 22 1 vL2 (m+1) (usL++[.slice A5 m5 c5])::.row 34 7 (.slice (some ⟨gN,0,none⟩) (m+1) cN) (m+1) (usN++[.int .i64 nd.op,.slice A1 q c1,.slice A2 m2 c2,.slice A3 m3 c3,.int .i64 nd.n,.int .i64 nd.how,.string nd.note])::.own 3 (.slice AS mS cS) mS sz::.box (w.heap.size+1+1) 25 [.slice AS mS cS,.string nms,.slice (some ⟨gN,0,none⟩) (m+1) cN,.slice none 0 0]::TB (w.heap.size+1) A n c (b3)::.box w.heap.size 25 [.slice none 0 0,.string ⟨#[]⟩,.slice none 0 0,.slice none 0 0]::.own 3 (.slice A1 q c1) q nd.ins::.own 3 (.slice A2 m2 c2) m2 nd.shape::.own 3 (.slice A3 m3 c3) m3 nd.a::.own 3 (.slice A5 m5 c5) m5 s5::pool) from Sep.pick (P:=[.own 3 (.slice A5 m5 c5) m5 s5,.row 22 1 (.slice Ai q ci) q us2,.box gx 34 [.int .i64 nd.op,.slice A1 q c1,.slice A2 m2 c2,.slice A3 m3 c3,.int .i64 nd.n,.int .i64 nd.how,.string nd.note],.own 3 (.slice A1 q c1) q nd.ins,.own 3 (.slice A2 m2 c2) m2 nd.shape,.own 3 (.slice A3 m3 c3) m3 nd.a,.row 22 1 vL2 (m+1) (usL++[.slice A5 m5 c5]),.row 34 7 (.slice (some ⟨gN,0,none⟩) (m+1) cN) (m+1) (usN++[.int .i64 nd.op,.slice A1 q c1,.slice A2 m2 c2,.slice A3 m3 c3,.int .i64 nd.n,.int .i64 nd.how,.string nd.note]),.own 3 (.slice AS mS cS) mS sz,.box (w.heap.size+1+1) 25 [.slice AS mS cS,.string nms,.slice (some ⟨gN,0,none⟩) (m+1) cN,.slice none 0 0],TB (w.heap.size+1) A n c (b3),.box w.heap.size 25 [.slice none 0 0,.string ⟨#[]⟩,.slice none 0 0,.slice none 0 0]]) (l' := [.row 22 1 vL2 (m+1) (usL++[.slice A5 m5 c5]),.row 34 7 (.slice (some ⟨gN,0,none⟩) (m+1) cN) (m+1) (usN++[.int .i64 nd.op,.slice A1 q c1,.slice A2 m2 c2,.slice A3 m3 c3,.int .i64 nd.n,.int .i64 nd.how,.string nd.note]),.own 3 (.slice AS mS cS) mS sz,.box (w.heap.size+1+1) 25 [.slice AS mS cS,.string nms,.slice (some ⟨gN,0,none⟩) (m+1) cN,.slice none 0 0],TB (w.heap.size+1) A n c (b3),.box w.heap.size 25 [.slice none 0 0,.string ⟨#[]⟩,.slice none 0 0,.slice none 0 0],.own 3 (.slice A1 q c1) q nd.ins,.own 3 (.slice A2 m2 c2) m2 nd.shape,.own 3 (.slice A3 m3 c3) m3 nd.a,.own 3 (.slice A5 m5 c5) m5 s5]) (l1:=pool) (show Sep w _ ([.own 3 (.slice A5 m5 c5) m5 s5,.row 22 1 (.slice Ai q ci) q us2,.box gx 34 [.int .i64 nd.op,.slice A1 q c1,.slice A2 m2 c2,.slice A3 m3 c3,.int .i64 nd.n,.int .i64 nd.how,.string nd.note],.own 3 (.slice A1 q c1) q nd.ins,.own 3 (.slice A2 m2 c2) m2 nd.shape,.own 3 (.slice A3 m3 c3) m3 nd.a,.row 22 1 vL2 (m+1) (usL++[.slice A5 m5 c5]),.row 34 7 (.slice (some ⟨gN,0,none⟩) (m+1) cN) (m+1) (usN++[.int .i64 nd.op,.slice A1 q c1,.slice A2 m2 c2,.slice A3 m3 c3,.int .i64 nd.n,.int .i64 nd.how,.string nd.note]),.own 3 (.slice AS mS cS) mS sz,.box (w.heap.size+1+1) 25 [.slice AS mS cS,.string nms,.slice (some ⟨gN,0,none⟩) (m+1) cN,.slice none 0 0],TB (w.heap.size+1) A n c (b3),.box w.heap.size 25 [.slice none 0 0,.string ⟨#[]⟩,.slice none 0 0,.slice none 0 0]]++pool) from h11) [6,7,8,9,10,11,3,4,5,0] rfl (by decide));clear h11;have HG2:=Hd (show kGo xs mS nm k ⟨N++[nd],L++[s5],b3⟩=FS by have h7:=HGO.out;rw[kGo,HPUT.out,HPUT2.out] at h7;exact h7);go_wp2;go_roundw
        case rel=>exact⟨k,m+1,b3,N++[nd],L++[s5],usN++([.int .i64 nd.op,.slice A1 q c1,.slice A2 m2 c2,.slice A3 m3 c3,.int .i64 nd.n,.int .i64 nd.how,.string nd.note]:List Value),usL++([.slice A5 m5 c5]:List Value),(Chunk.own 3 (.slice A1 q c1) q nd.ins::Chunk.own 3 (.slice A2 m2 c2) m2 nd.shape::Chunk.own 3 (.slice A3 m3 c3) m3 nd.a::Chunk.own 3 (.slice A5 m5 c5) m5 s5::pool),_,_,rfl,by go_num,by omega,bb3,by rw[List.length_append,List.length_singleton,HNL.out],by rw[List.length_append,List.length_singleton,HLL.out],right_snoc HRT.out HS5.out,((((HPN.out.shift (c:=Chunk.own 3 (.slice A5 m5 c5) m5 s5)).shift (c:=Chunk.own 3 (.slice A3 m3 c3) m3 nd.a)).shift (c:=Chunk.own 3 (.slice A2 m2 c2) m2 nd.shape)).shift (c:=Chunk.own 3 (.slice A1 q c1) q nd.ins)).snoc (nd:=nd) (p:=0) (q:=1) (r:=2) rfl rfl rfl HMD.out.op HMD.out.num HMD.out.how (by rw[show nd.note=⟨#[]⟩ from HMD.out.note];decide),((((HPL.out.shift (c:=Chunk.own 3 (.slice A5 m5 c5) m5 s5)).shift (c:=Chunk.own 3 (.slice A3 m3 c3) m3 nd.a)).shift (c:=Chunk.own 3 (.slice A2 m2 c2) m2 nd.shape)).shift (c:=Chunk.own 3 (.slice A1 q c1) q nd.ins)).snoc (p:=3) rfl,HG2.out,H11.out⟩
        case measure=>simp[intOf]
     ·have dE:(e5 != 0)=true:=by simpa using he
      have HE:=Hd he;clear he;have HG2:=Hd (show kGo xs mS nm k ⟨N,L,b⟩=FS by have h7:=HGO.out;rw[kGo,kStep_skip HR.out HSH.out (fun h=>HE.out h.1)] at h7;exact h7);have H2:=Hd (show Sep w _ (.row 22 1 (.slice Al m cl) m usL::.row 34 7 vN m usN::.own 3 (.slice AS mS cS) mS sz::.box (w.heap.size+1+1) 25 [.slice AS mS cS,.string nms,vN,.slice none 0 0]::TB (w.heap.size+1) A n c (b)::.box w.heap.size 25 [.slice none 0 0,.string ⟨#[]⟩,.slice none 0 0,.slice none 0 0]::pool) from Sep.pick (P:=[.own 3 (.slice A5 m5 c5) m5 s5,.row 22 1 (.slice Ai q ci) q us2,.box gx 34 [.int .i64 nd.op,.slice A1 q c1,.slice A2 m2 c2,.slice A3 m3 c3,.int .i64 nd.n,.int .i64 nd.how,.string nd.note],.own 3 (.slice A1 q c1) q nd.ins,.own 3 (.slice A2 m2 c2) m2 nd.shape,.own 3 (.slice A3 m3 c3) m3 nd.a,.row 22 1 (.slice Al m cl) m usL,.row 34 7 vN m usN,.own 3 (.slice AS mS cS) mS sz,.box (w.heap.size+1+1) 25 [.slice AS mS cS,.string nms,vN,.slice none 0 0],TB (w.heap.size+1) A n c (b),.box w.heap.size 25 [.slice none 0 0,.string ⟨#[]⟩,.slice none 0 0,.slice none 0 0]]) (l' := [.row 22 1 (.slice Al m cl) m usL,.row 34 7 vN m usN,.own 3 (.slice AS mS cS) mS sz,.box (w.heap.size+1+1) 25 [.slice AS mS cS,.string nms,vN,.slice none 0 0],TB (w.heap.size+1) A n c (b),.box w.heap.size 25 [.slice none 0 0,.string ⟨#[]⟩,.slice none 0 0,.slice none 0 0]]) (l1:=pool) (show Sep w _ ([.own 3 (.slice A5 m5 c5) m5 s5,.row 22 1 (.slice Ai q ci) q us2,.box gx 34 [.int .i64 nd.op,.slice A1 q c1,.slice A2 m2 c2,.slice A3 m3 c3,.int .i64 nd.n,.int .i64 nd.how,.string nd.note],.own 3 (.slice A1 q c1) q nd.ins,.own 3 (.slice A2 m2 c2) m2 nd.shape,.own 3 (.slice A3 m3 c3) m3 nd.a,.row 22 1 (.slice Al m cl) m usL,.row 34 7 vN m usN,.own 3 (.slice AS mS cS) mS sz,.box (w.heap.size+1+1) 25 [.slice AS mS cS,.string nms,vN,.slice none 0 0],TB (w.heap.size+1) A n c (b),.box w.heap.size 25 [.slice none 0 0,.string ⟨#[]⟩,.slice none 0 0,.slice none 0 0]]++pool) from H.out) [6,7,8,9,10,11] rfl (by decide));go_wp2;go_roundw
      case rel=>exact⟨k,m,b,N,L,usN,usL,pool,vN,_,rfl,by go_num,by omega,hbn,HNL.out,HLL.out,HRT.out,HPN.out,HPL.out,HG2.out,H2.out⟩
      case measure=>simp[intOf]
  ·obtain rfl:k=0:=by omega
   have HEND:=Hd (show(⟨N,L,a⟩:KS)=FS from HGO.out)
   go_wp2_with fail
   refine(next_k 3 H.out (i:=4) rfl HI.out han ⟨by omega,by omega⟩).mono ?_;rintro e4 w4 ⟨rfl,l1,hK,hS⟩;have e1:=hK.eq;subst e1;clear hK;have bt0:=tv_nonneg xs a 3;have bt1:=tv_lt xs a (show(0:Int)<3 by omega);obtain⟨r3,hr3⟩:=Int.eq_ofNat_of_zero_le bt0;have bb3:=ta_le 3 HXL.out han;obtain⟨a3,ha3⟩:∃ r,ta xs a 3=r:=⟨_,rfl⟩;rw[hr3] at bt1 ⊢;rw[ha3] at hS bb3;obtain⟨OT,hOT⟩:∃ OT,kOuts xs m (r3+1) a3=OT:=⟨_,rfl⟩;have HKG:=Hd (show kGraph xs=⟨sz,nms,N,OT⟩ by rw[kGraph,HBODY.out,← HEND.out,HM.out];simp only[];rw[HLL.out,hr3,ha3,← hOT,show(1+(r3:Int)).toNat=r3+1 by omega]);have HOT:=Hd hOT;clear hr3 ha3 hOT bt0;replace H:=Hd (show Sep w w4 (.row 22 1 vL m usL::.row 34 7 vN m usN::.own 3 (.slice AS mS cS) mS sz::.box (w.heap.size+1+1) 25 [.slice AS mS cS,.string nms,vN,.slice none 0 0]::TB (w.heap.size+1) A n c (a3)::.box w.heap.size 25 [.slice none 0 0,.string ⟨#[]⟩,.slice none 0 0,.slice none 0 0]::pool) from hS);clear hS;replace H:=Hd (H.out.addNil 3);obtain⟨Al,cl,hv,hcl,hLi⟩:=pool_lils 1 H.out rfl HPL.out HLL.out (by omega) 7 (fun j=>rfl);subst hv;clear hLi
   go_wp2_with fail
   go_loopw [13] (fun kv wr=>∃(k a4:Nat) (acc:List Int) (vO:Value),kv=.int .i64 k∧acc.length+k≤3∧a4≤n∧acc++kOuts xs m k a4=OT∧Sep w wr (.own 3 vO acc.length acc::.row 22 1 (.slice Al m cl) m usL::.row 34 7 vN m usN::.own 3 (.slice AS mS cS) mS sz::.box (w.heap.size+1+1) 25 [.slice AS mS cS,.string nms,vN,vO]::TB (w.heap.size+1) A n c (a4)::.box w.heap.size 25 [.slice none 0 0,.string ⟨#[]⟩,.slice none 0 0,.slice none 0 0]::pool)) (fun kv _=>(intOf kv).toNat)
   case atStart=>exact⟨r3+1,a3,[],_,by go_num,by simp;omega,bb3,by rw[HOT.out];rfl,H.out⟩
   case round =>
    clear H;obtain⟨k,a4,acc,vO,rfl,hak,ha4,hac,hS⟩:=hrel;have H:=Hd hS;have HAC:=Hd hac;clear hS hac;by_cases hk0:0<k
    ·obtain⟨k,rfl⟩:∃ j,k=j+1:=⟨k-1,by omega⟩;by_cases hm0:0<m
     ·have dm:decide (0<m)=true:=by simpa using hm0
      go_upto_region 23 with fail
      have b50:=tv_nonneg xs a4 m;have b51:=tv_lt xs a4 (show(0:Int)<(m:Int) by omega);have bb5:=ta_le (m:Int) HXL.out ha4;obtain⟨r5,hr5⟩:=Int.eq_ofNat_of_zero_le b50;obtain⟨a5,ha5⟩:∃ r,ta xs a4 m=r:=⟨_,rfl⟩;have b60:=tv_nonneg xs a5 2;have b61:=tv_lt xs a5 (show(0:Int)<2 by omega);have bb6:=ta_le 2 HXL.out (show a5≤n by rw[← ha5];exact bb5);obtain⟨r6,hr6⟩:=Int.eq_ofNat_of_zero_le b60;obtain⟨a6,ha6⟩:∃ r,ta xs a5 2=r:=⟨_,rfl⟩;rw[hr5] at b51;rw[hr6] at b61;rw[ha5] at bb5;rw[ha6] at bb6;obtain⟨y,hy⟩:∃ y:Int,[(m:Int)-1,(r5:Int)][r6]? = some y:=⟨_,List.getElem?_eq_getElem (by simp;omega)⟩
      have hfy:Fits y:=by
       rcases(show r6=0∨r6=1 by omega) with e|e
       ·subst e;injection hy with hy;subst hy;exact⟨by omega,by omega⟩
       ·subst e;injection hy with hy;subst hy;exact⟨by omega,by omega⟩
      have HACN:=Hd (show(acc++[y])++kOuts xs m k a6=OT by
       have h7:=HAC.out;rw[kOuts,if_neg (by omega),hr5,ha5,hr6,ha6] at h7
       have hyy:(if (r6:Int)=0 then(m:Int)-1 else(r5:Int))=y:=by
        rcases(show r6=0∨r6=1 by omega) with e|e
        ·subst e;injection hy
        ·subst e;injection hy
       rw[hyy] at h7
       rw[List.append_assoc];exact h7)
      have hy6:(r6:Int)<2:=by omega
      have HY:=Hd hy;clear hy b50 b60;have hwm:IntKind.i64.wrap ((m:Int)-1)=(m:Int)-1:=IntWalk.i64_in _ ⟨by omega,by omega⟩;have HD:=Hd H.out.drew;have C1:=next_k (m:Int) HD.out (i:=5) rfl HI.out ha4 ⟨by omega,by omega⟩;rw[hr5,ha5] at C1;have HR6:=Hd (And.intro hr6 ha6);clear hr5 ha5 hr6 ha6;refine wp_region_held_drew (S:=(fun _=>True)) (by kernel_rfl) ?_ (fun hq_=>?_)
      ·trivial
      refine zW 0 hq_ ?_
      try simp only[pA]
      refine zW 2 hq_ ?_
      try simp only[pA]
      refine zW 3 hq_ ?_
      try simp only[pA]
      refine zW 4 hq_ ?_
      try simp only[pA]
      refine zW 5 hq_ ?_
      try simp only[pA]
      refine zW 6 hq_ ?_
      try simp only[pA]
      refine zW 7 hq_ ?_
      try simp only[pA]
      refine zW 10 hq_ ?_
      try simp only[pA]
      refine rD [1,8] (aC (fun K hK=>?_) (aC (fun K hK=>?_) AllReadyH.nil))
      ·as_aux_lemma =>
        (have hcv:=HD.out.cell 4 3 rfl rfl)
        go_simp
        try go_wp2_with fail
        refine zK hK ?_;clear hK K hq_;intro hq_
        try simp only[pA]
        refine e1 8 fun K hK=>?_
        first|(refine effU ?_ ?_;(focus rfl))|(go_simp;(go_at_call 11;refine C1.mono ?_;rintro e7 y1 ⟨rfl,l1,hK,hS⟩;have e1:=hK.eq;subst e1;clear hK;have K1:=Hd (show Sep w y1 (.own 3 vO acc.length acc::.row 22 1 (.slice Al m cl) m usL::.row 34 7 vN m usN::.own 3 (.slice AS mS cS) mS sz::.box (w.heap.size+1+1) 25 [.slice AS mS cS,.string nms,vN,vO]::TB (w.heap.size+1) A n c (a5)::.box w.heap.size 25 [.slice none 0 0,.string ⟨#[]⟩,.slice none 0 0,.slice none 0 0]::pool) from hS);clear hS);go_wp2_with fail)
        refine zK hK ?_;clear hK K hq_;intro hq_
        try simp only[pA]
        refine rD [9,11] (aC (fun K hK=>?_) (aC (fun K hK=>?_) AllReadyH.nil))
        ·(have K2:=Hd (K1.out.lit 3 #[.int .i64 ((m:Int)-1),.int .i64 (r5:Int)] [(m:Int)-1,(r5:Int)] 2 y1.heap.size rfl rfl (by simp[litOk];omega)))
         go_simp
         try go_wp2_with fail
         refine zK hK ?_;clear hK K hq_;intro hq_
         try simp only[pA]
         refine e1 11 fun K hK=>?_
         first|(refine effU ?_ ?_;(focus rfl))|(go_simp;(have C2:=next_k 2 K2.out (i:=6) rfl HI.out bb5 ⟨by omega,by omega⟩;rw[HR6.out.1,HR6.out.2] at C2;go_at_call 11;refine C2.mono ?_;rintro e7 y3 ⟨rfl,l1,hK,hS⟩;have e1:=hK.eq;subst e1;clear hK;have K3:=Hd (show Sep w y3 (.own 3 (.slice (some ⟨y1.heap.size,0,none⟩) 2 2) 2 [(m:Int)-1,(r5:Int)]::.own 3 vO acc.length acc::.row 22 1 (.slice Al m cl) m usL::.row 34 7 vN m usN::.own 3 (.slice AS mS cS) mS sz::.box (w.heap.size+1+1) 25 [.slice AS mS cS,.string nms,vN,vO]::TB (w.heap.size+1) A n c (a6)::.box w.heap.size 25 [.slice none 0 0,.string ⟨#[]⟩,.slice none 0 0,.slice none 0 0]::pool) from hS);clear hS);go_wp2_with fail)
         refine zK hK ?_;clear hK K hq_;intro hq_
         try simp only[pA]
         refine zW 12 hq_ ?_
         try simp only[pA]
         refine e1 13 fun K hK=>?_
         (have hcz:=(K3.out.own 0 rfl).cell HY.out)
         go_simp
         try go_wp2_with fail
         refine zK hK ?_;clear hK K hq_;intro hq_
         try simp only[pA]
         refine e1 14 fun K hK=>?_
         go_simp
         try go_wp2_with fail
         refine zK hK ?_;clear hK K hq_;intro hq_
         try simp only[pA]
         refine e1 15 fun K hK=>?_
         (refine step_append_sep rfl (.tmp 98) (.tmp 111) 22 3 rfl Tryz.underlying22 Tryz.infoInt K3.out 1 rfl rfl y hfy _ rfl ?_ ?_;(focus omega);intro vO2 x5 h5;obtain⟨Ao2,co2,hv,_,_,_⟩:=(h5.ownS 1 rfl).form;subst hv;have H5:=Hd h5;clear h5)
         refine zK hK ?_;clear hK K hq_;intro hq_
         try simp only[pA]
         refine zW 16 hq_ ?_
         try simp only[pA]
         refine e1 17 fun K hK=>?_
         (have fz:=H5.out.frozenBox 5 3 rfl;have cz:=H5.out.cell 5 3 rfl rfl;have h6:=H5.out.setBox 5 3 (.slice Ao2 (acc.length+1) co2) rfl;have HS:=Hd h6.tail_;clear h6)
         go_simp
         try go_wp2_with fail
         refine zK hK ?_;clear hK K hq_;intro hq_
         try simp only[pA]
         refine wpAnyH_done (by kernel_rfl) ?_ _;go_wp2;go_roundw
         case rel=>exact⟨k,a6,acc++[y],_,by go_num,by rw[List.length_append,List.length_singleton];omega,bb6,HACN.out,by rw[List.length_append,List.length_singleton];exact HS.out⟩
         case measure=>simp[intOf]
        ·first|(refine effU ?_ ?_;(focus rfl))|(go_simp;(have C2:=next_k 2 K1.out (i:=5) rfl HI.out bb5 ⟨by omega,by omega⟩;rw[HR6.out.1,HR6.out.2] at C2;go_at_call 11;refine C2.mono ?_;rintro e7 y2 ⟨rfl,l1,hK,hS⟩;have e1:=hK.eq;subst e1;clear hK;have K2:=Hd (show Sep w y2 (.own 3 vO acc.length acc::.row 22 1 (.slice Al m cl) m usL::.row 34 7 vN m usN::.own 3 (.slice AS mS cS) mS sz::.box (w.heap.size+1+1) 25 [.slice AS mS cS,.string nms,vN,vO]::TB (w.heap.size+1) A n c (a6)::.box w.heap.size 25 [.slice none 0 0,.string ⟨#[]⟩,.slice none 0 0,.slice none 0 0]::pool) from hS);clear hS);go_wp2_with fail)
         refine zK hK ?_;clear hK K hq_;intro hq_
         try simp only[pA]
         refine e1 9 fun K hK=>?_
         (have K3:=Hd (K2.out.lit 3 #[.int .i64 ((m:Int)-1),.int .i64 (r5:Int)] [(m:Int)-1,(r5:Int)] 2 y2.heap.size rfl rfl (by simp[litOk];omega)))
         go_simp
         try go_wp2_with fail
         refine zK hK ?_;clear hK K hq_;intro hq_
         try simp only[pA]
         refine zW 12 hq_ ?_
         try simp only[pA]
         refine e1 13 fun K hK=>?_
         (generalize y2.alloc (.cells #[.int .i64 ((m:Int)-1),.int .i64 (r5:Int)] 3)=yy4 at *;have hcz:=(K3.out.own 0 rfl).cell HY.out)
         go_simp
         try go_wp2_with fail
         refine zK hK ?_;clear hK K hq_;intro hq_
         try simp only[pA]
         refine e1 14 fun K hK=>?_
         go_simp
         try go_wp2_with fail
         refine zK hK ?_;clear hK K hq_;intro hq_
         try simp only[pA]
         refine e1 15 fun K hK=>?_
         (refine step_append_sep rfl (.tmp 98) (.tmp 111) 22 3 rfl Tryz.underlying22 Tryz.infoInt K3.out 1 rfl rfl y hfy _ rfl ?_ ?_;(focus omega);intro vO2 x5 h5;obtain⟨Ao2,co2,hv,_,_,_⟩:=(h5.ownS 1 rfl).form;subst hv;have H5:=Hd h5;clear h5)
         refine zK hK ?_;clear hK K hq_;intro hq_
         try simp only[pA]
         refine zW 16 hq_ ?_
         try simp only[pA]
         refine e1 17 fun K hK=>?_
         (have fz:=H5.out.frozenBox 5 3 rfl;have cz:=H5.out.cell 5 3 rfl rfl;have h6:=H5.out.setBox 5 3 (.slice Ao2 (acc.length+1) co2) rfl;have HS:=Hd h6.tail_;clear h6)
         go_simp
         try go_wp2_with fail
         refine zK hK ?_;clear hK K hq_;intro hq_
         try simp only[pA]
         refine wpAnyH_done (by kernel_rfl) ?_ _;go_wp2;go_roundw
         case rel=>exact⟨k,a6,acc++[y],_,by go_num,by rw[List.length_append,List.length_singleton];omega,bb6,HACN.out,by rw[List.length_append,List.length_singleton];exact HS.out⟩
         case measure=>simp[intOf]
      ·as_aux_lemma =>
        first|(refine effU ?_ ?_;(focus rfl))|(go_simp;(go_at_call 11;refine C1.mono ?_;rintro e7 y0 ⟨rfl,l1,hK,hS⟩;have e1:=hK.eq;subst e1;clear hK;have K0:=Hd (show Sep w y0 (.own 3 vO acc.length acc::.row 22 1 (.slice Al m cl) m usL::.row 34 7 vN m usN::.own 3 (.slice AS mS cS) mS sz::.box (w.heap.size+1+1) 25 [.slice AS mS cS,.string nms,vN,vO]::TB (w.heap.size+1) A n c (a5)::.box w.heap.size 25 [.slice none 0 0,.string ⟨#[]⟩,.slice none 0 0,.slice none 0 0]::pool) from hS);clear hS);go_wp2_with fail)
        refine zK hK ?_;clear hK K hq_;intro hq_
        try simp only[pA]
        refine rD [1,9,11] (aC (fun K hK=>?_) (aC (fun K hK=>?_) (aC (fun K hK=>?_) AllReadyH.nil)))
        ·as_aux_lemma =>
          (have hcv:=K0.out.cell 4 3 rfl rfl)
          go_simp
          try go_wp2_with fail
          refine zK hK ?_;clear hK K hq_;intro hq_
          try simp only[pA]
          refine rD [9,11] (aC (fun K hK=>?_) (aC (fun K hK=>?_) AllReadyH.nil))
          ·(have K2:=Hd (K0.out.lit 3 #[.int .i64 ((m:Int)-1),.int .i64 (r5:Int)] [(m:Int)-1,(r5:Int)] 2 y0.heap.size rfl rfl (by simp[litOk];omega)))
           go_simp
           try go_wp2_with fail
           refine zK hK ?_;clear hK K hq_;intro hq_
           try simp only[pA]
           refine e1 11 fun K hK=>?_
           first|(refine effU ?_ ?_;(focus rfl))|(go_simp;(have C2:=next_k 2 K2.out (i:=6) rfl HI.out bb5 ⟨by omega,by omega⟩;rw[HR6.out.1,HR6.out.2] at C2;go_at_call 11;refine C2.mono ?_;rintro e7 y3 ⟨rfl,l1,hK,hS⟩;have e1:=hK.eq;subst e1;clear hK;have K3:=Hd (show Sep w y3 (.own 3 (.slice (some ⟨y0.heap.size,0,none⟩) 2 2) 2 [(m:Int)-1,(r5:Int)]::.own 3 vO acc.length acc::.row 22 1 (.slice Al m cl) m usL::.row 34 7 vN m usN::.own 3 (.slice AS mS cS) mS sz::.box (w.heap.size+1+1) 25 [.slice AS mS cS,.string nms,vN,vO]::TB (w.heap.size+1) A n c (a6)::.box w.heap.size 25 [.slice none 0 0,.string ⟨#[]⟩,.slice none 0 0,.slice none 0 0]::pool) from hS);clear hS);go_wp2_with fail)
           refine zK hK ?_;clear hK K hq_;intro hq_
           try simp only[pA]
           refine zW 12 hq_ ?_
           try simp only[pA]
           refine e1 13 fun K hK=>?_
           (have hcz:=(K3.out.own 0 rfl).cell HY.out)
           go_simp
           try go_wp2_with fail
           refine zK hK ?_;clear hK K hq_;intro hq_
           try simp only[pA]
           refine e1 14 fun K hK=>?_
           go_simp
           try go_wp2_with fail
           refine zK hK ?_;clear hK K hq_;intro hq_
           try simp only[pA]
           refine e1 15 fun K hK=>?_
           (refine step_append_sep rfl (.tmp 98) (.tmp 111) 22 3 rfl Tryz.underlying22 Tryz.infoInt K3.out 1 rfl rfl y hfy _ rfl ?_ ?_;(focus omega);intro vO2 x5 h5;obtain⟨Ao2,co2,hv,_,_,_⟩:=(h5.ownS 1 rfl).form;subst hv;have H5:=Hd h5;clear h5)
           refine zK hK ?_;clear hK K hq_;intro hq_
           try simp only[pA]
           refine zW 16 hq_ ?_
           try simp only[pA]
           refine e1 17 fun K hK=>?_
           (have fz:=H5.out.frozenBox 5 3 rfl;have cz:=H5.out.cell 5 3 rfl rfl;have h6:=H5.out.setBox 5 3 (.slice Ao2 (acc.length+1) co2) rfl;have HS:=Hd h6.tail_;clear h6)
           go_simp
           try go_wp2_with fail
           refine zK hK ?_;clear hK K hq_;intro hq_
           try simp only[pA]
           refine wpAnyH_done (by kernel_rfl) ?_ _;go_wp2;go_roundw
           case rel=>exact⟨k,a6,acc++[y],_,by go_num,by rw[List.length_append,List.length_singleton];omega,bb6,HACN.out,by rw[List.length_append,List.length_singleton];exact HS.out⟩
           case measure=>simp[intOf]
          ·first|(refine effU ?_ ?_;(focus rfl))|(go_simp;(have C2:=next_k 2 K0.out (i:=5) rfl HI.out bb5 ⟨by omega,by omega⟩;rw[HR6.out.1,HR6.out.2] at C2;go_at_call 11;refine C2.mono ?_;rintro e7 y2 ⟨rfl,l1,hK,hS⟩;have e1:=hK.eq;subst e1;clear hK;have K2:=Hd (show Sep w y2 (.own 3 vO acc.length acc::.row 22 1 (.slice Al m cl) m usL::.row 34 7 vN m usN::.own 3 (.slice AS mS cS) mS sz::.box (w.heap.size+1+1) 25 [.slice AS mS cS,.string nms,vN,vO]::TB (w.heap.size+1) A n c (a6)::.box w.heap.size 25 [.slice none 0 0,.string ⟨#[]⟩,.slice none 0 0,.slice none 0 0]::pool) from hS);clear hS);go_wp2_with fail)
           refine zK hK ?_;clear hK K hq_;intro hq_
           try simp only[pA]
           refine e1 9 fun K hK=>?_
           (have K3:=Hd (K2.out.lit 3 #[.int .i64 ((m:Int)-1),.int .i64 (r5:Int)] [(m:Int)-1,(r5:Int)] 2 y2.heap.size rfl rfl (by simp[litOk];omega)))
           go_simp
           try go_wp2_with fail
           refine zK hK ?_;clear hK K hq_;intro hq_
           try simp only[pA]
           refine zW 12 hq_ ?_
           try simp only[pA]
           refine e1 13 fun K hK=>?_
           (generalize y2.alloc (.cells #[.int .i64 ((m:Int)-1),.int .i64 (r5:Int)] 3)=yy4 at *;have hcz:=(K3.out.own 0 rfl).cell HY.out)
           go_simp
           try go_wp2_with fail
           refine zK hK ?_;clear hK K hq_;intro hq_
           try simp only[pA]
           refine e1 14 fun K hK=>?_
           go_simp
           try go_wp2_with fail
           refine zK hK ?_;clear hK K hq_;intro hq_
           try simp only[pA]
           refine e1 15 fun K hK=>?_
           (refine step_append_sep rfl (.tmp 98) (.tmp 111) 22 3 rfl Tryz.underlying22 Tryz.infoInt K3.out 1 rfl rfl y hfy _ rfl ?_ ?_;(focus omega);intro vO2 x5 h5;obtain⟨Ao2,co2,hv,_,_,_⟩:=(h5.ownS 1 rfl).form;subst hv;have H5:=Hd h5;clear h5)
           refine zK hK ?_;clear hK K hq_;intro hq_
           try simp only[pA]
           refine zW 16 hq_ ?_
           try simp only[pA]
           refine e1 17 fun K hK=>?_
           (have fz:=H5.out.frozenBox 5 3 rfl;have cz:=H5.out.cell 5 3 rfl rfl;have h6:=H5.out.setBox 5 3 (.slice Ao2 (acc.length+1) co2) rfl;have HS:=Hd h6.tail_;clear h6)
           go_simp
           try go_wp2_with fail
           refine zK hK ?_;clear hK K hq_;intro hq_
           try simp only[pA]
           refine wpAnyH_done (by kernel_rfl) ?_ _;go_wp2;go_roundw
           case rel=>exact⟨k,a6,acc++[y],_,by go_num,by rw[List.length_append,List.length_singleton];omega,bb6,HACN.out,by rw[List.length_append,List.length_singleton];exact HS.out⟩
           case measure=>simp[intOf]
        ·as_aux_lemma =>
          (have K1:=Hd (K0.out.lit 3 #[.int .i64 ((m:Int)-1),.int .i64 (r5:Int)] [(m:Int)-1,(r5:Int)] 2 y0.heap.size rfl rfl (by simp[litOk];omega)))
          go_simp
          try go_wp2_with fail
          refine zK hK ?_;clear hK K hq_;intro hq_
          try simp only[pA]
          refine rD [1,11] (aC (fun K hK=>?_) (aC (fun K hK=>?_) AllReadyH.nil))
          ·(have hcv:=K1.out.cell 5 3 rfl rfl)
           go_simp
           try go_wp2_with fail
           refine zK hK ?_;clear hK K hq_;intro hq_
           try simp only[pA]
           refine e1 11 fun K hK=>?_
           first|(refine effU ?_ ?_;(focus rfl))|(go_simp;(have C2:=next_k 2 K1.out (i:=6) rfl HI.out bb5 ⟨by omega,by omega⟩;rw[HR6.out.1,HR6.out.2] at C2;go_at_call 11;refine C2.mono ?_;rintro e7 y3 ⟨rfl,l1,hK,hS⟩;have e1:=hK.eq;subst e1;clear hK;have K3:=Hd (show Sep w y3 (.own 3 (.slice (some ⟨y0.heap.size,0,none⟩) 2 2) 2 [(m:Int)-1,(r5:Int)]::.own 3 vO acc.length acc::.row 22 1 (.slice Al m cl) m usL::.row 34 7 vN m usN::.own 3 (.slice AS mS cS) mS sz::.box (w.heap.size+1+1) 25 [.slice AS mS cS,.string nms,vN,vO]::TB (w.heap.size+1) A n c (a6)::.box w.heap.size 25 [.slice none 0 0,.string ⟨#[]⟩,.slice none 0 0,.slice none 0 0]::pool) from hS);clear hS);go_wp2_with fail)
           refine zK hK ?_;clear hK K hq_;intro hq_
           try simp only[pA]
           refine zW 12 hq_ ?_
           try simp only[pA]
           refine e1 13 fun K hK=>?_
           (have hcz:=(K3.out.own 0 rfl).cell HY.out)
           go_simp
           try go_wp2_with fail
           refine zK hK ?_;clear hK K hq_;intro hq_
           try simp only[pA]
           refine e1 14 fun K hK=>?_
           go_simp
           try go_wp2_with fail
           refine zK hK ?_;clear hK K hq_;intro hq_
           try simp only[pA]
           refine e1 15 fun K hK=>?_
           (refine step_append_sep rfl (.tmp 98) (.tmp 111) 22 3 rfl Tryz.underlying22 Tryz.infoInt K3.out 1 rfl rfl y hfy _ rfl ?_ ?_;(focus omega);intro vO2 x5 h5;obtain⟨Ao2,co2,hv,_,_,_⟩:=(h5.ownS 1 rfl).form;subst hv;have H5:=Hd h5;clear h5)
           refine zK hK ?_;clear hK K hq_;intro hq_
           try simp only[pA]
           refine zW 16 hq_ ?_
           try simp only[pA]
           refine e1 17 fun K hK=>?_
           (have fz:=H5.out.frozenBox 5 3 rfl;have cz:=H5.out.cell 5 3 rfl rfl;have h6:=H5.out.setBox 5 3 (.slice Ao2 (acc.length+1) co2) rfl;have HS:=Hd h6.tail_;clear h6)
           go_simp
           try go_wp2_with fail
           refine zK hK ?_;clear hK K hq_;intro hq_
           try simp only[pA]
           refine wpAnyH_done (by kernel_rfl) ?_ _;go_wp2;go_roundw
           case rel=>exact⟨k,a6,acc++[y],_,by go_num,by rw[List.length_append,List.length_singleton];omega,bb6,HACN.out,by rw[List.length_append,List.length_singleton];exact HS.out⟩
           case measure=>simp[intOf]
          ·first|(refine effU ?_ ?_;(focus rfl))|(go_simp;(have C2:=next_k 2 K1.out (i:=6) rfl HI.out bb5 ⟨by omega,by omega⟩;rw[HR6.out.1,HR6.out.2] at C2;go_at_call 11;refine C2.mono ?_;rintro e7 y2 ⟨rfl,l1,hK,hS⟩;have e1:=hK.eq;subst e1;clear hK;have K2:=Hd (show Sep w y2 (.own 3 (.slice (some ⟨y0.heap.size,0,none⟩) 2 2) 2 [(m:Int)-1,(r5:Int)]::.own 3 vO acc.length acc::.row 22 1 (.slice Al m cl) m usL::.row 34 7 vN m usN::.own 3 (.slice AS mS cS) mS sz::.box (w.heap.size+1+1) 25 [.slice AS mS cS,.string nms,vN,vO]::TB (w.heap.size+1) A n c (a6)::.box w.heap.size 25 [.slice none 0 0,.string ⟨#[]⟩,.slice none 0 0,.slice none 0 0]::pool) from hS);clear hS);go_wp2_with fail)
           refine zK hK ?_;clear hK K hq_;intro hq_
           try simp only[pA]
           refine zW 12 hq_ ?_
           try simp only[pA]
           refine rD [1,13] (aC (fun K hK=>?_) (aC (fun K hK=>?_) AllReadyH.nil))
           ·(have hcv:=K2.out.cell 5 3 rfl rfl)
            go_simp
            try go_wp2_with fail
            refine zK hK ?_;clear hK K hq_;intro hq_
            try simp only[pA]
            refine e1 13 fun K hK=>?_
            (have hcz:=(K2.out.own 0 rfl).cell HY.out)
            go_simp
            try go_wp2_with fail
            refine zK hK ?_;clear hK K hq_;intro hq_
            try simp only[pA]
            refine e1 14 fun K hK=>?_
            go_simp
            try go_wp2_with fail
            refine zK hK ?_;clear hK K hq_;intro hq_
            try simp only[pA]
            refine e1 15 fun K hK=>?_
            (refine step_append_sep rfl (.tmp 98) (.tmp 111) 22 3 rfl Tryz.underlying22 Tryz.infoInt K2.out 1 rfl rfl y hfy _ rfl ?_ ?_;(focus omega);intro vO2 x5 h5;obtain⟨Ao2,co2,hv,_,_,_⟩:=(h5.ownS 1 rfl).form;subst hv;have H5:=Hd h5;clear h5)
            refine zK hK ?_;clear hK K hq_;intro hq_
            try simp only[pA]
            refine zW 16 hq_ ?_
            try simp only[pA]
            refine e1 17 fun K hK=>?_
            (have fz:=H5.out.frozenBox 5 3 rfl;have cz:=H5.out.cell 5 3 rfl rfl;have h6:=H5.out.setBox 5 3 (.slice Ao2 (acc.length+1) co2) rfl;have HS:=Hd h6.tail_;clear h6)
            go_simp
            try go_wp2_with fail
            refine zK hK ?_;clear hK K hq_;intro hq_
            try simp only[pA]
            refine wpAnyH_done (by kernel_rfl) ?_ _;go_wp2;go_roundw
            case rel=>exact⟨k,a6,acc++[y],_,by go_num,by rw[List.length_append,List.length_singleton];omega,bb6,HACN.out,by rw[List.length_append,List.length_singleton];exact HS.out⟩
            case measure=>simp[intOf]
           ·(have hcz:=(K2.out.own 0 rfl).cell HY.out)
            go_simp
            try go_wp2_with fail
            refine zK hK ?_;clear hK K hq_;intro hq_
            try simp only[pA]
            refine rD [1,14] (aC (fun K hK=>?_) (aC (fun K hK=>?_) AllReadyH.nil))
            ·(have hcv:=K2.out.cell 5 3 rfl rfl)
             go_simp
             try go_wp2_with fail
             refine zK hK ?_;clear hK K hq_;intro hq_
             try simp only[pA]
             refine e1 14 fun K hK=>?_
             go_simp
             try go_wp2_with fail
             refine zK hK ?_;clear hK K hq_;intro hq_
             try simp only[pA]
             refine e1 15 fun K hK=>?_
             (refine step_append_sep rfl (.tmp 98) (.tmp 111) 22 3 rfl Tryz.underlying22 Tryz.infoInt K2.out 1 rfl rfl y hfy _ rfl ?_ ?_;(focus omega);intro vO2 x5 h5;obtain⟨Ao2,co2,hv,_,_,_⟩:=(h5.ownS 1 rfl).form;subst hv;have H5:=Hd h5;clear h5)
             refine zK hK ?_;clear hK K hq_;intro hq_
             try simp only[pA]
             refine zW 16 hq_ ?_
             try simp only[pA]
             refine e1 17 fun K hK=>?_
             (have fz:=H5.out.frozenBox 5 3 rfl;have cz:=H5.out.cell 5 3 rfl rfl;have h6:=H5.out.setBox 5 3 (.slice Ao2 (acc.length+1) co2) rfl;have HS:=Hd h6.tail_;clear h6)
             go_simp
             try go_wp2_with fail
             refine zK hK ?_;clear hK K hq_;intro hq_
             try simp only[pA]
             refine wpAnyH_done (by kernel_rfl) ?_ _;go_wp2;go_roundw
             case rel=>exact⟨k,a6,acc++[y],_,by go_num,by rw[List.length_append,List.length_singleton];omega,bb6,HACN.out,by rw[List.length_append,List.length_singleton];exact HS.out⟩
             case measure=>simp[intOf]
            ·go_simp
             try go_wp2_with fail
             refine zK hK ?_;clear hK K hq_;intro hq_
             try simp only[pA]
             refine e1 1 fun K hK=>?_
             (have hcv:=alloc_keep (.cells #[.int .i64 y] 3) (K2.out.cell 5 3 rfl rfl))
             go_simp
             try go_wp2_with fail
             refine zK hK ?_;clear hK K hq_;intro hq_
             try simp only[pA]
             refine e1 15 fun K hK=>?_
             (refine step_append_sep rfl (.tmp 98) (.tmp 111) 22 3 rfl Tryz.underlying22 Tryz.infoInt K2.out 1 rfl rfl y hfy _ rfl ?_ ?_;(focus omega);intro vO2 x5 h5;obtain⟨Ao2,co2,hv,_,_,_⟩:=(h5.ownS 1 rfl).form;subst hv;have H5:=Hd h5;clear h5)
             refine zK hK ?_;clear hK K hq_;intro hq_
             try simp only[pA]
             refine zW 16 hq_ ?_
             try simp only[pA]
             refine e1 17 fun K hK=>?_
             (have fz:=H5.out.frozenBox 5 3 rfl;have cz:=H5.out.cell 5 3 rfl rfl;have h6:=H5.out.setBox 5 3 (.slice Ao2 (acc.length+1) co2) rfl;have HS:=Hd h6.tail_;clear h6)
             go_simp
             try go_wp2_with fail
             refine zK hK ?_;clear hK K hq_;intro hq_
             try simp only[pA]
             refine wpAnyH_done (by kernel_rfl) ?_ _;go_wp2;go_roundw
             case rel=>exact⟨k,a6,acc++[y],_,by go_num,by rw[List.length_append,List.length_singleton];omega,bb6,HACN.out,by rw[List.length_append,List.length_singleton];exact HS.out⟩
             case measure=>simp[intOf]
        ·as_aux_lemma =>
          first|(refine effU ?_ ?_;(focus rfl))|(go_simp;(have C2:=next_k 2 K0.out (i:=5) rfl HI.out bb5 ⟨by omega,by omega⟩;rw[HR6.out.1,HR6.out.2] at C2;go_at_call 11;refine C2.mono ?_;rintro e7 y1 ⟨rfl,l1,hK,hS⟩;have e1:=hK.eq;subst e1;clear hK;have K1:=Hd (show Sep w y1 (.own 3 vO acc.length acc::.row 22 1 (.slice Al m cl) m usL::.row 34 7 vN m usN::.own 3 (.slice AS mS cS) mS sz::.box (w.heap.size+1+1) 25 [.slice AS mS cS,.string nms,vN,vO]::TB (w.heap.size+1) A n c (a6)::.box w.heap.size 25 [.slice none 0 0,.string ⟨#[]⟩,.slice none 0 0,.slice none 0 0]::pool) from hS);clear hS);go_wp2_with fail)
          refine zK hK ?_;clear hK K hq_;intro hq_
          try simp only[pA]
          refine rD [1,9] (aC (fun K hK=>?_) (aC (fun K hK=>?_) AllReadyH.nil))
          ·(have hcv:=K1.out.cell 4 3 rfl rfl)
           go_simp
           try go_wp2_with fail
           refine zK hK ?_;clear hK K hq_;intro hq_
           try simp only[pA]
           refine e1 9 fun K hK=>?_
           (have K3:=Hd (K1.out.lit 3 #[.int .i64 ((m:Int)-1),.int .i64 (r5:Int)] [(m:Int)-1,(r5:Int)] 2 y1.heap.size rfl rfl (by simp[litOk];omega)))
           go_simp
           try go_wp2_with fail
           refine zK hK ?_;clear hK K hq_;intro hq_
           try simp only[pA]
           refine zW 12 hq_ ?_
           try simp only[pA]
           refine e1 13 fun K hK=>?_
           (generalize y1.alloc (.cells #[.int .i64 ((m:Int)-1),.int .i64 (r5:Int)] 3)=yy4 at *;have hcz:=(K3.out.own 0 rfl).cell HY.out)
           go_simp
           try go_wp2_with fail
           refine zK hK ?_;clear hK K hq_;intro hq_
           try simp only[pA]
           refine e1 14 fun K hK=>?_
           go_simp
           try go_wp2_with fail
           refine zK hK ?_;clear hK K hq_;intro hq_
           try simp only[pA]
           refine e1 15 fun K hK=>?_
           (refine step_append_sep rfl (.tmp 98) (.tmp 111) 22 3 rfl Tryz.underlying22 Tryz.infoInt K3.out 1 rfl rfl y hfy _ rfl ?_ ?_;(focus omega);intro vO2 x5 h5;obtain⟨Ao2,co2,hv,_,_,_⟩:=(h5.ownS 1 rfl).form;subst hv;have H5:=Hd h5;clear h5)
           refine zK hK ?_;clear hK K hq_;intro hq_
           try simp only[pA]
           refine zW 16 hq_ ?_
           try simp only[pA]
           refine e1 17 fun K hK=>?_
           (have fz:=H5.out.frozenBox 5 3 rfl;have cz:=H5.out.cell 5 3 rfl rfl;have h6:=H5.out.setBox 5 3 (.slice Ao2 (acc.length+1) co2) rfl;have HS:=Hd h6.tail_;clear h6)
           go_simp
           try go_wp2_with fail
           refine zK hK ?_;clear hK K hq_;intro hq_
           try simp only[pA]
           refine wpAnyH_done (by kernel_rfl) ?_ _;go_wp2;go_roundw
           case rel=>exact⟨k,a6,acc++[y],_,by go_num,by rw[List.length_append,List.length_singleton];omega,bb6,HACN.out,by rw[List.length_append,List.length_singleton];exact HS.out⟩
           case measure=>simp[intOf]
          ·(have K2:=Hd (K1.out.lit 3 #[.int .i64 ((m:Int)-1),.int .i64 (r5:Int)] [(m:Int)-1,(r5:Int)] 2 y1.heap.size rfl rfl (by simp[litOk];omega)))
           go_simp
           try go_wp2_with fail
           refine zK hK ?_;clear hK K hq_;intro hq_
           try simp only[pA]
           refine zW 12 hq_ ?_
           try simp only[pA]
           refine rD [1,13] (aC (fun K hK=>?_) (aC (fun K hK=>?_) AllReadyH.nil))
           ·(generalize y1.alloc (.cells #[.int .i64 ((m:Int)-1),.int .i64 (r5:Int)] 3)=yy3 at *;have hcv:=K2.out.cell 5 3 rfl rfl)
            go_simp
            try go_wp2_with fail
            refine zK hK ?_;clear hK K hq_;intro hq_
            try simp only[pA]
            refine e1 13 fun K hK=>?_
            (have hcz:=(K2.out.own 0 rfl).cell HY.out)
            go_simp
            try go_wp2_with fail
            refine zK hK ?_;clear hK K hq_;intro hq_
            try simp only[pA]
            refine e1 14 fun K hK=>?_
            go_simp
            try go_wp2_with fail
            refine zK hK ?_;clear hK K hq_;intro hq_
            try simp only[pA]
            refine e1 15 fun K hK=>?_
            (refine step_append_sep rfl (.tmp 98) (.tmp 111) 22 3 rfl Tryz.underlying22 Tryz.infoInt K2.out 1 rfl rfl y hfy _ rfl ?_ ?_;(focus omega);intro vO2 x5 h5;obtain⟨Ao2,co2,hv,_,_,_⟩:=(h5.ownS 1 rfl).form;subst hv;have H5:=Hd h5;clear h5)
            refine zK hK ?_;clear hK K hq_;intro hq_
            try simp only[pA]
            refine zW 16 hq_ ?_
            try simp only[pA]
            refine e1 17 fun K hK=>?_
            (have fz:=H5.out.frozenBox 5 3 rfl;have cz:=H5.out.cell 5 3 rfl rfl;have h6:=H5.out.setBox 5 3 (.slice Ao2 (acc.length+1) co2) rfl;have HS:=Hd h6.tail_;clear h6)
            go_simp
            try go_wp2_with fail
            refine zK hK ?_;clear hK K hq_;intro hq_
            try simp only[pA]
            refine wpAnyH_done (by kernel_rfl) ?_ _;go_wp2;go_roundw
            case rel=>exact⟨k,a6,acc++[y],_,by go_num,by rw[List.length_append,List.length_singleton];omega,bb6,HACN.out,by rw[List.length_append,List.length_singleton];exact HS.out⟩
            case measure=>simp[intOf]
           ·(generalize y1.alloc (.cells #[.int .i64 ((m:Int)-1),.int .i64 (r5:Int)] 3)=yy3 at *;have hcz:=(K2.out.own 0 rfl).cell HY.out)
            go_simp
            try go_wp2_with fail
            refine zK hK ?_;clear hK K hq_;intro hq_
            try simp only[pA]
            refine rD [1,14] (aC (fun K hK=>?_) (aC (fun K hK=>?_) AllReadyH.nil))
            ·(have hcv:=K2.out.cell 5 3 rfl rfl)
             go_simp
             try go_wp2_with fail
             refine zK hK ?_;clear hK K hq_;intro hq_
             try simp only[pA]
             refine e1 14 fun K hK=>?_
             go_simp
             try go_wp2_with fail
             refine zK hK ?_;clear hK K hq_;intro hq_
             try simp only[pA]
             refine e1 15 fun K hK=>?_
             (refine step_append_sep rfl (.tmp 98) (.tmp 111) 22 3 rfl Tryz.underlying22 Tryz.infoInt K2.out 1 rfl rfl y hfy _ rfl ?_ ?_;(focus omega);intro vO2 x5 h5;obtain⟨Ao2,co2,hv,_,_,_⟩:=(h5.ownS 1 rfl).form;subst hv;have H5:=Hd h5;clear h5)
             refine zK hK ?_;clear hK K hq_;intro hq_
             try simp only[pA]
             refine zW 16 hq_ ?_
             try simp only[pA]
             refine e1 17 fun K hK=>?_
             (have fz:=H5.out.frozenBox 5 3 rfl;have cz:=H5.out.cell 5 3 rfl rfl;have h6:=H5.out.setBox 5 3 (.slice Ao2 (acc.length+1) co2) rfl;have HS:=Hd h6.tail_;clear h6)
             go_simp
             try go_wp2_with fail
             refine zK hK ?_;clear hK K hq_;intro hq_
             try simp only[pA]
             refine wpAnyH_done (by kernel_rfl) ?_ _;go_wp2;go_roundw
             case rel=>exact⟨k,a6,acc++[y],_,by go_num,by rw[List.length_append,List.length_singleton];omega,bb6,HACN.out,by rw[List.length_append,List.length_singleton];exact HS.out⟩
             case measure=>simp[intOf]
            ·go_simp
             try go_wp2_with fail
             refine zK hK ?_;clear hK K hq_;intro hq_
             try simp only[pA]
             refine e1 1 fun K hK=>?_
             (have hcv:=alloc_keep (.cells #[.int .i64 y] 3) (K2.out.cell 5 3 rfl rfl))
             go_simp
             try go_wp2_with fail
             refine zK hK ?_;clear hK K hq_;intro hq_
             try simp only[pA]
             refine e1 15 fun K hK=>?_
             (refine step_append_sep rfl (.tmp 98) (.tmp 111) 22 3 rfl Tryz.underlying22 Tryz.infoInt K2.out 1 rfl rfl y hfy _ rfl ?_ ?_;(focus omega);intro vO2 x5 h5;obtain⟨Ao2,co2,hv,_,_,_⟩:=(h5.ownS 1 rfl).form;subst hv;have H5:=Hd h5;clear h5)
             refine zK hK ?_;clear hK K hq_;intro hq_
             try simp only[pA]
             refine zW 16 hq_ ?_
             try simp only[pA]
             refine e1 17 fun K hK=>?_
             (have fz:=H5.out.frozenBox 5 3 rfl;have cz:=H5.out.cell 5 3 rfl rfl;have h6:=H5.out.setBox 5 3 (.slice Ao2 (acc.length+1) co2) rfl;have HS:=Hd h6.tail_;clear h6)
             go_simp
             try go_wp2_with fail
             refine zK hK ?_;clear hK K hq_;intro hq_
             try simp only[pA]
             refine wpAnyH_done (by kernel_rfl) ?_ _;go_wp2;go_roundw
             case rel=>exact⟨k,a6,acc++[y],_,by go_num,by rw[List.length_append,List.length_singleton];omega,bb6,HACN.out,by rw[List.length_append,List.length_singleton];exact HS.out⟩
             case measure=>simp[intOf]
     ·obtain rfl:m=0:=by omega
      have HFIN:=Hd (show acc=OT by have h7:=HAC.out;rw[kOuts,if_pos rfl,List.append_nil] at h7;exact h7);obtain⟨An,cn,hv,hcn,hNi⟩:=pool_nods 2 H.out rfl HPN.out HNL.out (by omega) 7 (fun j=>rfl);subst hv;clear hNi;obtain⟨Ao,co,hv,hco,_,_⟩:=(H.out.ownS 0 rfl).form;subst hv;obtain⟨g0,g1,g2,g3⟩:=H.out.cells4 4 rfl;obtain⟨rq0,rq1,rq2,rq3⟩:=H.out.cells4 6 rfl;obtain ⟨fr0,fr1,fr2,fr3⟩:=H.out.f4 6 rfl;have h12:=(((H.out.setBox 6 0 (.slice AS mS cS) rfl).setBox 6 1 (.string nms) rfl).setBox 6 2 (.slice An 0 cn) rfl).setBox 6 3 (.slice Ao acc.length co) rfl;obtain⟨An2,cn2,hv,_,hNi⟩:=pool_nods 2 h12 rfl HPN.out HNL.out (by omega) 7 (fun j=>rfl);injection hv with hv1 _ hv3
      subst hv1;subst hv3;have HH:=Hd h12;have HNI:=Hd hNi;clear h12 hNi;go_wp2;refine ret_graph (v0:=.slice AS mS cS) (v1:=.string nms) (v2:=.slice An 0 cn) (v3:=.slice Ao acc.length co) HH.out 6 rfl Tryz.results4 rfl rfl ?_;rw[HKG.out];exact⟨⟨_,rfl,AS,mS,cS,An,0,cn,Ao,acc.length,co,rfl,⟨hcS,hcn,hco,(HH.out.ownInts 3 rfl).2.2,HNI.out,by rw[← HFIN.out];exact(HH.out.ownInts 0 rfl).2.2,by show nms.size≤_;omega⟩⟩,HH.out.base⟩
    ·obtain rfl:k=0:=by omega
     have HFIN:=Hd (show acc=OT by have h7:=HAC.out;rw[kOuts,List.append_nil] at h7;exact h7);obtain⟨An,cn,hv,hcn,hNi⟩:=pool_nods 2 H.out rfl HPN.out HNL.out (by omega) 7 (fun j=>rfl);subst hv;clear hNi;obtain⟨Ao,co,hv,hco,_,_⟩:=(H.out.ownS 0 rfl).form;subst hv;obtain⟨g0,g1,g2,g3⟩:=H.out.cells4 4 rfl;obtain⟨rq0,rq1,rq2,rq3⟩:=H.out.cells4 6 rfl;obtain ⟨fr0,fr1,fr2,fr3⟩:=H.out.f4 6 rfl;have h12:=(((H.out.setBox 6 0 (.slice AS mS cS) rfl).setBox 6 1 (.string nms) rfl).setBox 6 2 (.slice An m cn) rfl).setBox 6 3 (.slice Ao acc.length co) rfl;obtain⟨An2,cn2,hv,_,hNi⟩:=pool_nods 2 h12 rfl HPN.out HNL.out (by omega) 7 (fun j=>rfl);injection hv with hv1 _ hv3
     subst hv1;subst hv3;have HH:=Hd h12;have HNI:=Hd hNi;clear h12 hNi;go_wp2;refine ret_graph (v0:=.slice AS mS cS) (v1:=.string nms) (v2:=.slice An m cn) (v3:=.slice Ao acc.length co) HH.out 6 rfl Tryz.results4 rfl rfl ?_;rw[HKG.out];exact⟨⟨_,rfl,AS,mS,cS,An,m,cn,Ao,acc.length,co,rfl,⟨hcS,hcn,hco,(HH.out.ownInts 3 rfl).2.2,HNI.out,by rw[← HFIN.out];exact(HH.out.ownInts 0 rfl).2.2,by show nms.size≤_;omega⟩⟩,HH.out.base⟩
end Go.Proofs.YtnnmplkgenhofaaGreat
