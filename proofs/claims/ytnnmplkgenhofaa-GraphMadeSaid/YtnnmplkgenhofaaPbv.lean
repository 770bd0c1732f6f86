import Derived.Test.YtnnmplkgenhofaaPac
import Derived.Test.YtnnmplkgenhofaaPae
import Derived.Test.YtnnmplkgenhofaaPag
import Derived.Test.YtnnmplkgenhofaaPbj
import Derived.Test.YtnnmplkgenhofaaPbr
import Derived.Test.YtnnmplkgenhofaaPbu
namespace Go.Proofs.Ytnnmplkgenhofaa
open Go.RowKit
theorem rn0:RightN [] 0:=⟨by decide,by decide,rfl,fun i x h=>by simp at h⟩
theorem rn1:RightN [120] 1:=⟨by decide,by decide,rfl,fun i x h=>by
 match i,h with
 | 0,h=>simp at h;subst h;exact ⟨by unfold badR;omega,rfl⟩
 | i+1,h=>simp at h⟩
def nodV (op:Int) (ins shape a:List Int):NodeV:=⟨op,ins,shape,a,0,0,⟨#[]⟩⟩
def gvNone:GraphV:=⟨[],⟨#[]⟩,[],[]⟩
def gvOwn:GraphV:=⟨[],⟨#[]⟩,[nodV 4 [0] [] []],[]⟩
def gvNoted:GraphV:=⟨[2],⟨#[120]⟩,[⟨1,[],[2],[],0,0,⟨#[120,46]⟩⟩],[]⟩
def gvTwo:GraphV:=⟨[],⟨#[]⟩,[nodV 1 [] [2,3] [],nodV 13 [0] [] [1,0]],[]⟩
theorem mesh0 (N:List NodeV) (O:List Int):meshF ⟨[],⟨#[]⟩,N,O⟩=true:=by
 rw [mesh_end (by show 0≤3;omega) (fun i x h=>by simp at h)]
 show (decide (Sh.pr []≤8) && rightB (runesOf ⟨#[]⟩) 0)=true
 rw [show runesOf ⟨#[]⟩=[] from rfl,rightB_yes rn0];decide
theorem shapes_none:shapesR gvNone=(0,[]):=by
 rw [shapesR_end (G:=gvNone) (mesh0 _ _) ⟨by show 0≤48;omega,by show 0≤48;omega⟩ (l:=[]) rfl];rfl
theorem shapes_own:shapesR gvOwn=(23,[]):=by
 refine shapesR_go (mesh0 _ _) ⟨by show 1≤48;omega,by show 0≤48;omega⟩ (l:=[]) ?_ (by decide)
 show shapesGo _ [] [nodV 4 [0] [] []]=_
 rw [shapesGo,show insOk [] (nodV 4 [0] [] []).ins=false from insOk_bad (j:=0) (x:=0) rfl (by simp)]
 rfl
theorem shape_param (s:List Int) (t:ByteArray) (h:Sh.right s=true):shapeR ⟨1,[],s,[],0,0,t⟩ []=(0,s):=by
 rw [shapeR,show formF ⟨1,[],s,[],0,0,t⟩ ([]:List (List Int)).length=true from rfl,if_pos rfl,show ([]:List (List Int)).all Sh.right=true from rfl,if_pos rfl,if_pos rfl,if_pos h]
theorem shapes_noted:shapesR gvNoted=(14,[]):=by
 have hm:meshF gvNoted=true:=by
  rw [mesh_end (by show 1≤3;omega) (fun i x h=>by
   match i,h with
   | 0,h=>simp [gvNoted] at h;subst h;omega
   | i+1,h=>simp [gvNoted] at h)]
  show (decide (Sh.pr [2]≤8) && rightB (runesOf ⟨#[120]⟩) 1)=true
  rw [show runesOf ⟨#[120]⟩=[120] from by kernel_rfl,rightB_yes rn1];decide
 refine shapesR_go hm ⟨by show 1≤48;omega,by show 0≤48;omega⟩ (l:=[]) ?_ (by decide)
 show shapesGo (runesOf ⟨#[120]⟩) [] [⟨1,[],[2],[],0,0,⟨#[120,46]⟩⟩]=_
 rw [show runesOf ⟨#[120]⟩=[120] from by kernel_rfl,shapesGo,if_pos (show insOk [] _=true from rfl)];rw [show insOf [] (⟨1,[],[2],[],0,0,⟨#[120,46]⟩⟩:NodeV).ins=[] from rfl,shape_param [2] _ (by decide),if_pos rfl]
 have hn:noteE [120] ⟨1,[],[2],[],0,0,⟨#[120,46]⟩⟩ ([2]:List Int).length=14:=by
  rw [noteE,show runesOf (⟨1,[],[2],[],0,0,⟨#[120,46]⟩⟩:NodeV).note=[120,46] from by kernel_rfl];rw [noteR_rank (out:=[0,-1]) (by decide) (by decide) (by decide) (by decide)]
 rw [hn,if_neg (by decide)]
theorem shape_turn:shapeR (nodV 13 [0] [] [1,0]) [[2,3]]=(0,[3,2]):=by
 have hok:TuOk [2,3] [1,0]:=⟨rfl,fun i x hx=>by
  match i,hx with
  | 0,hx=>simp at hx;subst hx;exact ⟨by omega,by show (1:Int)<2;omega,by simp⟩
  | 1,hx=>simp at hx;subst hx;exact ⟨by omega,by show (0:Int)<2;omega,by simp⟩
  | i+2,hx=>simp at hx⟩
 rw [shapeR,if_pos (show formF (nodV 13 [0] [] [1,0]) (([[2,3]]:List (List Int)).length:Nat)=true from rfl),if_pos (show ([[2,3]]:List (List Int)).all Sh.right=true from by decide),if_neg (show ¬ (nodV 13 [0] [] [1,0]).op=1 from by decide)]
 have hw:workR (nodV 13 [0] [] [1,0]) (([[2,3]]:List (List Int)).map zeros)=turnR (zeros [2,3]).1 (zeros [2,3]).2 [1,0]:=by
  rw [workR,if_neg (by decide),if_neg (by decide),if_neg (by decide),if_neg (by decide),if_pos (by decide)];rfl
 rw [hw,turnR_ok (zeros_right (by decide)) hok,if_pos rfl];rfl
theorem shapes_two:shapesR gvTwo=(0,[[2,3],[3,2]]):=by
 have hE:∀ (nd:NodeV) (r:Nat),nd.note=⟨#[]⟩→noteE [] nd r=0:=fun nd r h=>noteE_none h
 have hg:shapesGo (runesOf gvTwo.names) [] gvTwo.nodes=(0,[[2,3],[3,2]]):=by
  show shapesGo (runesOf ⟨#[]⟩) [] [nodV 1 [] [2,3] [],nodV 13 [0] [] [1,0]]=_
  rw [show runesOf ⟨#[]⟩=[] from rfl,shapesGo,if_pos (show insOk [] _=true from rfl),show insOf [] (nodV 1 [] [2,3] []).ins=[] from rfl,show shapeR (nodV 1 [] [2,3] []) []=(0,[2,3]) from shape_param _ _ (by decide),if_pos rfl,hE _ _ rfl,if_pos rfl]
  rw [shapesGo,if_pos (show insOk _ _=true from insOk_good (fun i x h=>by
   match i,h with
   | 0,h=>simp [nodV] at h;subst h;simp
   | i+1,h=>simp [nodV] at h)),show insOf ([]++[[2,3]]) (nodV 13 [0] [] [1,0]).ins=[[2,3]] from rfl,shape_turn,if_pos rfl,hE _ _ rfl,if_pos rfl,shapesGo];rfl
 rw [shapesR_end (G:=gvTwo) (mesh0 _ _) ⟨by show 2≤48;omega,by show 0≤48;omega⟩ hg];rfl
theorem par_noted:parF 0 gvNoted.nodes=[0]:=by decide
theorem own_noted:sameG gvOwn gvNoted=false:=sameG_no (fun h=>by
 have:=congrArg GraphV.sizes h
 cases this)
def ndFill:NodeV:=⟨2,[],[],[],5,0,⟨#[]⟩⟩
def ndNot:NodeV:=⟨5,[0],[],[],0,0,⟨#[]⟩⟩
theorem mesh_same {G G' : GraphV} (h:G.sizes=G'.sizes) (g:G.names=G'.names):meshF G=meshF G' := by unfold meshF;rw [h,g]
theorem shape_fill:shapeR ndFill []=(0,[]):=by
 rw [shapeR,if_pos (show formF ndFill (([]:List (List Int)).length:Nat)=true from rfl),if_pos (show ([]:List (List Int)).all Sh.right=true from rfl),if_neg (show ¬ ndFill.op=1 from by decide)]
 have hw:workR ndFill (([]:List (List Int)).map zeros)=(0,[],List.replicate (Sh.size []).toNat 5):=by
  rw [workR,if_pos (by rfl),if_pos (by decide)];rfl
 rw [hw,if_pos rfl]
theorem shapes_made (xs:List Int):shapesR ⟨(kGraph xs).sizes,(kGraph xs).names,(kGraph xs).nodes++[ndFill],(kGraph xs).outs++[((kGraph xs).nodes.length:Int)]⟩=(0,(kBody xs).shapes++[[]]):=by
 obtain ⟨nm,h⟩:=graph_fine xs;have hl:=(shapesR_graph xs).2;have h1:=h.len;have h2:=h.outs;have hm:meshF ⟨(kGraph xs).sizes,(kGraph xs).names,(kGraph xs).nodes++[ndFill],(kGraph xs).outs++[((kGraph xs).nodes.length:Int)]⟩=true:=(mesh_same rfl rfl).trans h.mesh
 have hg:shapesGo nm [] ((kGraph xs).nodes++[ndFill])=(0,(kBody xs).shapes++[[]]):=by
  rw [shapesGo_append nm _ _ [] _ h.go];exact shapesGo_one (nd:=ndFill) rfl shape_fill (noteE_none rfl)
 rw [shapesR_end (l:=(kBody xs).shapes++[[]]) hm ⟨by show List.length (_++_)≤48;rw [List.length_append,List.length_singleton];omega,by show List.length (_++_)≤48;rw [List.length_append,List.length_singleton];omega⟩ (by show shapesGo (runesOf (kGraph xs).names) [] _=_;rw [h.runes];exact hg)]
 rw [if_pos (outs_good fun i x hi=>by
  rw [List.length_append,List.length_singleton];rcases List.mem_append.1 (List.mem_of_getElem? hi) with hx | hx
  ·have:=h.outIn x hx;omega
  ·rw [List.mem_singleton.1 hx];omega)]
theorem shapes_bad (xs:List Int):shapesR ⟨(kGraph xs).sizes,(kGraph xs).names,ndNot::(kGraph xs).nodes,(kGraph xs).outs⟩=(23,[]):=by
 obtain ⟨nm,h⟩:=graph_fine xs;have h1:=h.len;have h2:=h.outs;refine shapesR_go (G:=⟨(kGraph xs).sizes,(kGraph xs).names,ndNot::(kGraph xs).nodes,(kGraph xs).outs⟩) ((mesh_same rfl rfl).trans h.mesh) ⟨by show List.length (_::_)≤48;rw [List.length_cons];omega,by show List.length (kGraph xs).outs≤48;omega⟩ (l:=[]) ?_ (by decide)
 show shapesGo _ [] (ndNot::(kGraph xs).nodes)=_
 rw [shapesGo,show insOk [] ndNot.ins=false from insOk_bad (j:=0) (x:=0) rfl (by simp)]
 rfl
theorem few_made (xs:List Int):FewG 20 ⟨(kGraph xs).sizes,(kGraph xs).names,(kGraph xs).nodes++[ndFill],(kGraph xs).outs++[((kGraph xs).nodes.length:Int)]⟩:=by
 have h:=few_graph xs;have h1:=h.nodes;have h2:=h.outs;have h3:=h.sizes;refine ⟨by show List.length (_++_)≤20;rw [List.length_append,List.length_singleton];omega,by show (kGraph xs).sizes.length≤20;omega,by show List.length (_++_)≤20;rw [List.length_append,List.length_singleton];omega,fun j nd hj => ?_⟩;rcases List.mem_append.1 (List.mem_of_getElem? hj) with hm | hm
 ·obtain ⟨i,hi,e⟩:=List.getElem_of_mem hm;have:=h.each i nd (by rw [List.getElem?_eq_getElem hi,e]);exact ⟨by have:=this.1;omega,by have:=this.2.1;omega,by have:=this.2.2;omega⟩
 ·rw [List.mem_singleton.1 hm];exact ⟨by show 0≤20;omega,by show 0≤20;omega,by show 0≤20;omega⟩
theorem few_bad (xs:List Int):FewG 20 ⟨(kGraph xs).sizes,(kGraph xs).names,ndNot::(kGraph xs).nodes,(kGraph xs).outs⟩:=by
 have h:=few_graph xs;have h1:=h.nodes;have h2:=h.outs;have h3:=h.sizes;refine ⟨by show List.length (_::_)≤20;rw [List.length_cons];omega,by show (kGraph xs).sizes.length≤20;omega,by show (kGraph xs).outs.length≤20;omega,fun j nd hj => ?_⟩;rcases List.mem_cons.1 (List.mem_of_getElem? hj) with hm | hm
 ·rw [hm];exact ⟨by show 1≤20;omega,by show 0≤20;omega,by show 0≤20;omega⟩
 ·obtain ⟨i,hi,e⟩:=List.getElem_of_mem hm;have:=h.each i nd (by rw [List.getElem?_eq_getElem hi,e]);exact ⟨by have:=this.1;omega,by have:=this.2.1;omega,by have:=this.2.2;omega⟩
theorem text_eq (t:ByteArray):(t.toList==t.toList)=true:=by simp
theorem refInts_eq {w:World} {A B:Option Addr} {n c m d:Nat} {xs:List Int} (h:Ints w A n xs) (g:Ints w B m xs) :
  Calls Try.prog 30 #[.slice A n c,.slice B m d] w fun e w' => e=.returned (.bool true)∧∃ k,w' = w.drewN k :=
 (refInts_any h g).mono fun _ _ ⟨he,hw⟩=>⟨he.trans (ret_bool (by simp)),hw⟩
set_option maxRecDepth 100000 in
set_option maxHeartbeats 3200000 in
theorem ref10Nodes_eq {w:World} {v u:Value} {nd:NodeV} (h:NodeIs w v nd) (g:NodeIs w u nd) :
  Calls Try.prog 31 #[v,u] w fun e w' => e=.returned (.bool true)∧Below w.heap.size w w' := by
 obtain ⟨A1,na1,ca1,B1,nb1,cb1,C1,nc1,cc1,rfl,hL1⟩:=h;obtain ⟨A2,na2,ca2,B2,nb2,cb2,C2,nc2,cc2,rfl,hL2⟩:=g;have h1:=((Sep.nil w).allocBox w.heap.size 32 [.int .i64 nd.op,.slice A1 na1 ca1,.slice B1 nb1 cb1,.slice C1 nc1 cc1,.int .i64 nd.n,.int .i64 nd.how,.string nd.note] rfl).allocBox (w.heap.size+1) 32 [.int .i64 nd.op,.slice A2 na2 ca2,.slice B2 nb2 cb2,.slice C2 nc2 cc2,.int .i64 nd.n,.int .i64 nd.how,.string nd.note] (by simp);have HL1:=Hd hL1;have HL2:=Hd hL2;clear hL1 hL2
 go_enter Try.func31,Try.ntmps31
 go_upto_region 1 with fail
 generalize (w.alloc (.cells #[.int .i64 nd.op,.slice A1 na1 ca1,.slice B1 nb1 cb1,.slice C1 nc1 cc1,.int .i64 nd.n,.int .i64 nd.how,.string nd.note] 32)).alloc (.cells #[.int .i64 nd.op,.slice A2 na2 ca2,.slice B2 nb2 cb2,.slice C2 nc2 cc2,.int .i64 nd.n,.int .i64 nd.how,.string nd.note] 32)=W at *;have H:=Hd h1;clear h1;have ht:=text_eq nd.note;obtain ⟨n0,n1,n2,n3,n4,n5,n6⟩:=H.out.cells7 1 rfl;obtain ⟨m0,m1,m2,m3,m4,m5,m6⟩:=H.out.cells7 0 rfl
 go_wp2_with fail
 refine (refInts_eq (HL1.out.inA.below H.out.base) (HL2.out.inA.below H.out.base)).mono ?_;rintro e0 w0 ⟨rfl,k0,rfl⟩;clear n0 m0 n1 m1 n2 m2 n3 m3 n4 m4 n5 m5 n6 m6;replace H:=Hd (H.out.drewN k0);obtain ⟨v0,hv0⟩:∃ v,World.drewN W k0=v:=⟨_,rfl⟩;rw [hv0] at H ⊢;clear hv0;obtain ⟨n0,n1,n2,n3,n4,n5,n6⟩:=H.out.cells7 1 rfl;obtain ⟨m0,m1,m2,m3,m4,m5,m6⟩:=H.out.cells7 0 rfl
 go_wp2_with fail
 refine (refInts_eq (HL1.out.inB.below H.out.base) (HL2.out.inB.below H.out.base)).mono ?_;rintro e1 w1 ⟨rfl,k1,rfl⟩;clear n0 m0 n1 m1 n2 m2 n3 m3 n4 m4 n5 m5 n6 m6;replace H:=Hd (H.out.drewN k1);obtain ⟨v1,hv1⟩:∃ v,World.drewN v0 k1=v:=⟨_,rfl⟩;rw [hv1] at H ⊢;clear hv1;obtain ⟨n0,n1,n2,n3,n4,n5,n6⟩:=H.out.cells7 1 rfl;obtain ⟨m0,m1,m2,m3,m4,m5,m6⟩:=H.out.cells7 0 rfl
 go_wp2_with fail
 refine (refInts_eq (HL1.out.inC.below H.out.base) (HL2.out.inC.below H.out.base)).mono ?_;rintro e2 w2 ⟨rfl,k2,rfl⟩;clear n0 m0 n1 m1 n2 m2 n3 m3 n4 m4 n5 m5 n6 m6;replace H:=Hd (H.out.drewN k2);obtain ⟨v2,hv2⟩:∃ v,World.drewN v1 k2=v:=⟨_,rfl⟩;rw [hv2] at H ⊢;clear hv2;obtain ⟨n0,n1,n2,n3,n4,n5,n6⟩:=H.out.cells7 1 rfl;obtain ⟨m0,m1,m2,m3,m4,m5,m6⟩:=H.out.cells7 0 rfl;go_wp2;go_ret;exact ⟨rfl,H.out.base⟩
set_option maxRecDepth 100000 in
set_option maxHeartbeats 6400000 in
theorem ref10Same_eq {w:World} {v u:Value} {G:GraphV} (h:GraphIs w v G) (g:GraphIs w u G) :
  Calls Try.prog 13 #[v,u] w fun e w' => e=.returned (.bool true)∧Below w.heap.size w w' := by
 obtain ⟨A1,na1,ca1,B1,nb1,cb1,C1,nc1,cc1,rfl,hL1⟩:=h;obtain ⟨A2,na2,ca2,B2,nb2,cb2,C2,nc2,cc2,rfl,hL2⟩:=g;have h1:=((Sep.nil w).allocBox w.heap.size 25 [.slice A1 na1 ca1,.string G.names,.slice B1 nb1 cb1,.slice C1 nc1 cc1] rfl).allocBox (w.heap.size+1) 25 [.slice A2 na2 ca2,.string G.names,.slice B2 nb2 cb2,.slice C2 nc2 cc2] (by simp);obtain rfl:nb1=nb2:=hL1.inB.1.symm.trans hL2.inB.1;have hnb:=hL1.inB.2.1;have HBL:=Hd hL1.inB.1;have HL1:=Hd hL1;have HL2:=Hd hL2;clear hL1 hL2
 go_enter Try.func13,Try.ntmps13
 go_upto_region 1 with fail
 generalize (w.alloc (.cells #[.slice A1 na1 ca1,.string G.names,.slice B1 nb1 cb1,.slice C1 nc1 cc1] 25)).alloc (.cells #[.slice A2 na2 ca2,.string G.names,.slice B2 nb1 cb2,.slice C2 nc2 cc2] 25)=W at *;have H:=Hd h1;clear h1;have ht:=text_eq G.names;have hne:((nb1:Int) != (nb1:Int))=false:=by simp
 obtain ⟨n0,n1,n2,n3⟩:=H.out.cells4 1 rfl;obtain ⟨m0,m1,m2,m3⟩:=H.out.cells4 0 rfl
 go_wp2_with fail
 refine (refInts_eq (HL1.out.inA.below H.out.base) (HL2.out.inA.below H.out.base)).mono ?_;rintro e0 w0 ⟨rfl,k0,rfl⟩;clear n0 m0 n1 m1 n2 m2 n3 m3;replace H:=Hd (H.out.drewN k0);obtain ⟨v0,hv0⟩:∃ v,World.drewN W k0=v:=⟨_,rfl⟩;rw [hv0] at H ⊢;clear hv0;obtain ⟨n0,n1,n2,n3⟩:=H.out.cells4 1 rfl;obtain ⟨m0,m1,m2,m3⟩:=H.out.cells4 0 rfl
 go_wp2_with fail
 refine (refInts_eq (HL1.out.inC.below H.out.base) (HL2.out.inC.below H.out.base)).mono ?_;rintro e1 w1 ⟨rfl,k1,rfl⟩;clear n0 m0 n1 m1 n2 m2 n3 m3;replace H:=Hd (H.out.drewN k1);obtain ⟨v1,hv1⟩:∃ v,World.drewN v0 k1=v:=⟨_,rfl⟩;rw [hv1] at H ⊢;clear hv1;obtain ⟨n0,n1,n2,n3⟩:=H.out.cells4 1 rfl;obtain ⟨m0,m1,m2,m3⟩:=H.out.cells4 0 rfl
 go_wp2_with fail
 clear n0 m0 n1 m1 n2 m2 n3 m3
 go_loopw [39] (fun iv wr=>∃ j:Nat,iv=.int .i64 j∧j≤nb1∧Sep w wr [.box (w.heap.size+1) 25 [.slice A2 na2 ca2,.string G.names,.slice B2 nb1 cb2,.slice C2 nc2 cc2],.box w.heap.size 25 [.slice A1 na1 ca1,.string G.names,.slice B1 nb1 cb1,.slice C1 nc1 cc1]]) (fun iv _=>nb1-(intOf iv).toNat)
 case atStart=>exact ⟨0,rfl,by omega,H.out⟩
 case round =>
  clear H;obtain ⟨j,rfl,hj,hS⟩:=hrel;have H:=Hd hS;clear hS;by_cases hlt:j<nb1
  ·obtain ⟨nd,hnd⟩:∃ nd,G.nodes[j]? = some nd:=⟨_,List.getElem?_eq_getElem (by have:=HBL.out;omega)⟩;obtain ⟨l1,P1,p1,q1,Q1,r1,s1,R1,t1,u1,hl1,hb1,k10,k11,k12,k13,k14,k15,k16,hN1⟩:=HL1.out.inB.2.2 j nd hnd;subst hl1;obtain ⟨l2,P2,p2,q2,Q2,r2,s2,R2,t2,u2,hl2,hb2,k20,k21,k22,k23,k24,k25,k26,hN2⟩:=HL2.out.inB.2.2 j nd hnd;subst hl2;obtain ⟨w9,rfl⟩:∃ w9:World,w9=wr:=⟨_,rfl⟩
   go_upto_region 6 with fail
   have H0:=Hd H.out.drew;have f0:=H.out.cell 1 2 rfl rfl;have f1:=H.out.cell 0 2 rfl rfl;obtain ⟨f2,f3,f4,f5,f6,f7,f8⟩:=old7 H.out hb1 k10 k11 k12 k13 k14 k15 k16;obtain ⟨f9,f10,f11,f12,f13,f14,f15⟩:=old7 H.out hb2 k20 k21 k22 k23 k24 k25 k26
   go_region_held3 (fun w' => w'.cell? ⟨w.heap.size,2,none⟩=some (.slice (some l1) nb1 cb1)∧w'.cell? ⟨w.heap.size+1,2,none⟩=some (.slice (some l2) nb1 cb2)∧w'.cell? (l1.add (j*7))=some (.int .i64 nd.op)∧w'.cell? ⟨(l1.add (j*7)).block,(l1.add (j*7)).off+1,none⟩=some (.slice P1 p1 q1)∧w'.cell? ⟨(l1.add (j*7)).block,(l1.add (j*7)).off+2,none⟩=some (.slice Q1 r1 s1)∧w'.cell? ⟨(l1.add (j*7)).block,(l1.add (j*7)).off+3,none⟩=some (.slice R1 t1 u1)∧w'.cell? ⟨(l1.add (j*7)).block,(l1.add (j*7)).off+4,none⟩=some (.int .i64 nd.n)∧w'.cell? ⟨(l1.add (j*7)).block,(l1.add (j*7)).off+5,none⟩=some (.int .i64 nd.how)∧w'.cell? ⟨(l1.add (j*7)).block,(l1.add (j*7)).off+6,none⟩=some (.string nd.note)∧w'.cell? (l2.add (j*7))=some (.int .i64 nd.op)∧w'.cell? ⟨(l2.add (j*7)).block,(l2.add (j*7)).off+1,none⟩=some (.slice P2 p2 q2)∧w'.cell? ⟨(l2.add (j*7)).block,(l2.add (j*7)).off+2,none⟩=some (.slice Q2 r2 s2)∧w'.cell? ⟨(l2.add (j*7)).block,(l2.add (j*7)).off+3,none⟩=some (.slice R2 t2 u2)∧w'.cell? ⟨(l2.add (j*7)).block,(l2.add (j*7)).off+4,none⟩=some (.int .i64 nd.n)∧w'.cell? ⟨(l2.add (j*7)).block,(l2.add (j*7)).off+5,none⟩=some (.int .i64 nd.how)∧w'.cell? ⟨(l2.add (j*7)).block,(l2.add (j*7)).off+6,none⟩=some (.string nd.note)) (go_keep)
    (first | (go_at_call 31;refine (ref10Nodes_eq (show NodeIs _ _ nd from ⟨P1,p1,q1,Q1,r1,s1,R1,t1,u1,rfl,hN1.below H0.out.base⟩) (show NodeIs _ _ nd from ⟨P2,p2,q2,Q2,r2,s2,R2,t2,u2,rfl,hN2.below H0.out.base⟩)).mono ?_;rintro e7 w7 ⟨rfl,hb7⟩;have H7:=Hd (H0.out.below hb7);have e0:=H7.out.cell 1 2 rfl rfl;have e1:=H7.out.cell 0 2 rfl rfl;have e2:=H7.out.oldCell (p:=(l1.add (j*7))) (blk_add hb1) k10;have e3:=H7.out.oldCell (p:=⟨(l1.add (j*7)).block,(l1.add (j*7)).off+1,none⟩) (blk_add hb1) k11;have e4:=H7.out.oldCell (p:=⟨(l1.add (j*7)).block,(l1.add (j*7)).off+2,none⟩) (blk_add hb1) k12;have e5:=H7.out.oldCell (p:=⟨(l1.add (j*7)).block,(l1.add (j*7)).off+3,none⟩) (blk_add hb1) k13;have e6:=H7.out.oldCell (p:=⟨(l1.add (j*7)).block,(l1.add (j*7)).off+4,none⟩) (blk_add hb1) k14;have e7:=H7.out.oldCell (p:=⟨(l1.add (j*7)).block,(l1.add (j*7)).off+5,none⟩) (blk_add hb1) k15;have e8:=H7.out.oldCell (p:=⟨(l1.add (j*7)).block,(l1.add (j*7)).off+6,none⟩) (blk_add hb1) k16;have e9:=H7.out.oldCell (p:=(l2.add (j*7))) (blk_add hb2) k20;have e10:=H7.out.oldCell (p:=⟨(l2.add (j*7)).block,(l2.add (j*7)).off+1,none⟩) (blk_add hb2) k21;have e11:=H7.out.oldCell (p:=⟨(l2.add (j*7)).block,(l2.add (j*7)).off+2,none⟩) (blk_add hb2) k22;have e12:=H7.out.oldCell (p:=⟨(l2.add (j*7)).block,(l2.add (j*7)).off+3,none⟩) (blk_add hb2) k23;have e13:=H7.out.oldCell (p:=⟨(l2.add (j*7)).block,(l2.add (j*7)).off+4,none⟩) (blk_add hb2) k24;have e14:=H7.out.oldCell (p:=⟨(l2.add (j*7)).block,(l2.add (j*7)).off+5,none⟩) (blk_add hb2) k25;have e15:=H7.out.oldCell (p:=⟨(l2.add (j*7)).block,(l2.add (j*7)).off+6,none⟩) (blk_add hb2) k26;clear hb7))
   go_wp2;go_roundw
   case rel=>exact ⟨j+1,by go_num,by omega,H7.out⟩
   case measure=>simp [intOf];omega
  ·obtain rfl:j=nb1:=by omega
   go_wp2;go_ret;exact ⟨rfl,H.out.base⟩
set_option maxRecDepth 100000 in
set_option maxHeartbeats 3200000 in
theorem rows_eq {w:World} {A B:Option Addr} {n c m d:Nat} {L:List (List Int)} (h:Lils w A n L) (g:Lils w B m L) :
  Calls Try.prog 8 #[.slice A n c,.slice B m d] w fun e w' => e=.returned (.bool true)∧∃ k,w' = w.drewN k:=by
 obtain rfl:n=m:=h.1.symm.trans g.1;have HL:=Hd h.1;have hn9:=h.2.1;have HA:=Hd h;have HB:=Hd g;clear h g
 go_enter Try.func8,Try.ntmps8
 have dn:((n:Int) != (n:Int))=false:=by simp
 go_wp2_with fail
 go_loopw [13] (fun iv wr=>∃ (j q:Nat),iv=.int .i64 j∧j≤n∧wr=w.drewN q) (fun iv _=>n-(intOf iv).toNat)
 case atStart=>exact ⟨0,0,rfl,by omega,rfl⟩
 case round =>
  obtain ⟨j,q,rfl,hj,hw⟩:=hrel;have HW:=Hd hw;have hA2:Lils wr (A) n L:=by rw [hw];exact HA.out
  have hB2:Lils wr (B) n L:=by rw [hw];exact HB.out
  clear hw;by_cases hlt:j<n
  ·obtain ⟨x,hx⟩:∃ x,L[j]? = some x:=⟨_,List.getElem?_eq_getElem (by have:=HL.out;omega)⟩;obtain ⟨a,S,sn,sc,hAa,_,c0,_,hI⟩:=hA2.2.2 j x hx;obtain ⟨b,T,tn,tc,hBb,_,c1,_,hJ⟩:=hB2.2.2 j x hx;have CS:=fun k:Nat=>bookSame_eq (w:=wr.drewN k) (c:=sc) (d:=tc) (hI.drewN k) (hJ.drewN k)
   have HCS:=Hd CS;clear CS hI hJ hx hA2 hB2;subst hAa;subst hBb
   go_upto_region 6 with fail
   go_quiet ((go_at_call 24;with_reducible exact (HCS.out _).mono fun _ _ ⟨e,q,h⟩=>⟨e,_,h.trans (World.drewN_drewN _ _ _)⟩))
   go_wp2;go_roundw
   case rel=>exact ⟨j+1,_,by go_num,by omega,by rw [HW.out,World.drewN_drewN]⟩
   case measure=>simp [intOf];omega
  ·obtain rfl:j=n:=by omega
   clear hA2 hB2;go_wp2;go_ret;exact ⟨by trivial,q,HW.out⟩
theorem nods_block {w:World} {g:Nat} {cs:Array Value} {t:TypeId} {f:Nat × Nat} {N:List NodeV} {n:Nat} (hb:w.heap[g]? = some (.cells cs t f)) (hK:NodK w cs.toList N) (hn:N.length=n) (h9:n≤900):Nods w (some ⟨g,0,none⟩) n N:=by
 refine ⟨hn,h9,fun j nd hj => ?_⟩;obtain ⟨A,na,ca,B,nb,cb,C,nc,cc,h1,h2⟩:=hK.2 j nd hj
 have hc0:∀ k:Nat,k<7→w.cell? ⟨g,j*7+k,none⟩=(nodeCells nd A na ca B nb cb C nc cc)[k]? := fun k hk=>by
  rw [← h1 k hk,show w.cell? ⟨g,j*7+k,none⟩=cs[j*7+k]? from by simp [World.cell?,hb],Array.getElem?_toList]
 have hlt:g<w.heap.size:=(Array.getElem?_eq_some_iff.1 hb).1;refine ⟨⟨g,0,none⟩,A,na,ca,B,nb,cb,C,nc,cc,rfl,hlt,?_,?_,?_,?_,?_,?_,?_,h2⟩
 ·rw [addrL0];exact hc0 0 (by omega)
 ·rw [addrL0];exact hc0 1 (by omega)
 ·rw [addrL0];exact hc0 2 (by omega)
 ·rw [addrL0];exact hc0 3 (by omega)
 ·rw [addrL0];exact hc0 4 (by omega)
 ·rw [addrL0];exact hc0 5 (by omega)
 ·rw [addrL0];exact hc0 6 (by omega)
theorem fits_lit {n:Int} (h : -1000≤n) (g:n≤1000):Fits n:=⟨by omega,by omega⟩
set_option maxRecDepth 100000 in
set_option maxHeartbeats 6400000 in
theorem l10known_any (w:World):Calls Try.prog 10 #[] w fun e w' => e=.returned (.bool true)∧Below w.heap.size w w' := by
 go_enter Try.func10,Try.ntmps10
 have h1:=(((Sep.nil w).lit 3 #[.int .i64 0] [0] 1 (w.heap.size) rfl rfl rfl).allocBox (w.heap.size+1) 32 [.int .i64 4,.slice (some ⟨w.heap.size,0,none⟩) 1 1,.slice none 0 0,.slice none 0 0,.int .i64 0,.int .i64 0,.string ⟨#[]⟩] (by simp)).allocBox (w.heap.size+1+1) 25 [.slice none 0 0,.string ⟨#[]⟩,.slice (some ⟨w.heap.size+1,0,none⟩) 1 1,.slice none 0 0] (by simp)
 go_upto_region 2 with fail
 generalize (((w.alloc (.cells #[.int .i64 0] 3)).alloc (.cells #[.int .i64 4,.slice (some ⟨w.heap.size,0,none⟩) 1 1,.slice none 0 0,.slice none 0 0,.int .i64 0,.int .i64 0,.string ⟨#[]⟩] 32)).alloc (.cells #[.slice none 0 0,.string ⟨#[]⟩,.slice (some ⟨w.heap.size+1,0,none⟩) 1 1,.slice none 0 0] 25))=w1 at *;have H:=Hd h1;clear h1;have h2:=((((H.out).lit 3 #[.int .i64 2] [2] 1 (w1.heap.size) rfl rfl rfl).lit 3 #[.int .i64 2] [2] 1 (w1.heap.size+1) (by simp) rfl rfl).allocBox (w1.heap.size+1+1) 32 [.int .i64 1,.slice none 0 0,.slice (some ⟨w1.heap.size+1,0,none⟩) 1 1,.slice none 0 0,.int .i64 0,.int .i64 0,.string ⟨#[120,46]⟩] (by simp)).allocBox (w1.heap.size+1+1+1) 25 [.slice (some ⟨w1.heap.size,0,none⟩) 1 1,.string ⟨#[120]⟩,.slice (some ⟨w1.heap.size+1+1,0,none⟩) 1 1,.slice none 0 0] (by simp)
 go_upto_region 3 with fail
 generalize ((((w1.alloc (.cells #[.int .i64 2] 3)).alloc (.cells #[.int .i64 2] 3)).alloc (.cells #[.int .i64 1,.slice none 0 0,.slice (some ⟨w1.heap.size+1,0,none⟩) 1 1,.slice none 0 0,.int .i64 0,.int .i64 0,.string ⟨#[120,46]⟩] 32)).alloc (.cells #[.slice (some ⟨w1.heap.size,0,none⟩) 1 1,.string ⟨#[120]⟩,.slice (some ⟨w1.heap.size+1+1,0,none⟩) 1 1,.slice none 0 0] 25))=w2 at *;replace H:=Hd h2;clear h2;have H3:=Hd (((((H.out).lit 3 #[.int .i64 2,.int .i64 3] [2,3] 2 (w2.heap.size) rfl rfl rfl).lit 3 #[.int .i64 0] [0] 1 (w2.heap.size+1) (by simp) rfl rfl).lit 3 #[.int .i64 1,.int .i64 0] [1,0] 2 (w2.heap.size+1+1) (by simp) rfl rfl).allocBox (w2.heap.size+1+1+1) 32 [.int .i64 1,.slice none 0 0,.slice (some ⟨w2.heap.size,0,none⟩) 2 2,.slice none 0 0,.int .i64 0,.int .i64 0,.string ⟨#[]⟩,.int .i64 13,.slice (some ⟨w2.heap.size+1,0,none⟩) 1 1,.slice none 0 0,.slice (some ⟨w2.heap.size+1+1,0,none⟩) 2 2,.int .i64 0,.int .i64 0,.string ⟨#[]⟩] (by simp));have hN3:=nods_block (n:=2) (N:=gvTwo.nodes) (H3.out.heap 0 rfl) ((nodK_one (nd:=nodV 1 [] [2,3] []) ⟨Nat.le_refl _,Nat.le_refl _,Nat.le_refl _,Ints.nil_ _ none,(H3.out.ownInts 3 rfl).2.2,Ints.nil_ _ none,fits_lit (by decide) (by decide),fits0,fits0,by show 0≤_;omega⟩).append (nodK_one (nd:=nodV 13 [0] [] [1,0]) ⟨Nat.le_refl _,Nat.le_refl _,Nat.le_refl _,(H3.out.ownInts 2 rfl).2.2,Ints.nil_ _ none,(H3.out.ownInts 1 rfl).2.2,fits_lit (by decide) (by decide),fits0,fits0,by show 0≤_;omega⟩)) rfl (by omega);have hN2:=nods_block (n:=1) (N:=gvNoted.nodes) (H3.out.heap 5 rfl) (nodK_one (nd:=⟨1,[],[2],[],0,0,⟨#[120,46]⟩⟩) ⟨Nat.le_refl _,Nat.le_refl _,Nat.le_refl _,Ints.nil_ _ none,(H3.out.ownInts 6 rfl).2.2,Ints.nil_ _ none,fits_lit (by decide) (by decide),fits0,fits0,by show 2≤_;omega⟩) rfl (by omega);have hN1:=nods_block (n:=1) (N:=gvOwn.nodes) (H3.out.heap 9 rfl) (nodK_one (nd:=nodV 4 [0] [] []) ⟨Nat.le_refl _,Nat.le_refl _,Nat.le_refl _,(H3.out.ownInts 10 rfl).2.2,Ints.nil_ _ none,Ints.nil_ _ none,fits_lit (by decide) (by decide),fits0,fits0,by show 0≤_;omega⟩) rfl (by omega);have HGTwo:Hid (GraphIs _ (.agg #[.slice none 0 0,.string ⟨#[]⟩,.slice (some ⟨w2.heap.size+1+1+1,0,none⟩) 2 2,.slice none 0 0]) gvTwo):=Hd ⟨_,_,_,_,_,_,_,_,_,rfl,⟨Nat.le_refl _,Nat.le_refl _,Nat.le_refl _,Ints.nil_ _ none,hN3,Ints.nil_ _ none,by show 0≤_;omega⟩⟩;have HGNoted:Hid (GraphIs _ (.agg #[.slice (some ⟨w1.heap.size,0,none⟩) 1 1,.string ⟨#[120]⟩,.slice (some ⟨w1.heap.size+1+1,0,none⟩) 1 1,.slice none 0 0]) gvNoted):=Hd ⟨_,_,_,_,_,_,_,_,_,rfl,⟨Nat.le_refl _,Nat.le_refl _,Nat.le_refl _,(H3.out.ownInts 7 rfl).2.2,hN2,Ints.nil_ _ none,by show 1≤_;omega⟩⟩;have HGOwn:Hid (GraphIs _ (.agg #[.slice none 0 0,.string ⟨#[]⟩,.slice (some ⟨w.heap.size+1,0,none⟩) 1 1,.slice none 0 0]) gvOwn):=Hd ⟨_,_,_,_,_,_,_,_,_,rfl,⟨Nat.le_refl _,Nat.le_refl _,Nat.le_refl _,Ints.nil_ _ none,hN1,Ints.nil_ _ none,by show 0≤_;omega⟩⟩;have hGN:∀ w9:World,GraphIs w9 (.agg #[.slice none 0 0,.string ⟨#[]⟩,.slice none 0 0,.slice none 0 0]) gvNone:=fun w9=>⟨_,_,_,_,_,_,_,_,_,rfl,⟨Nat.le_refl _,Nat.le_refl _,Nat.le_refl _,Ints.nil_ _ none,⟨rfl,by omega,fun j nd h=>by simp [gvNone] at h⟩,Ints.nil_ _ none,by show 0≤_;omega⟩⟩
 have HGN:=Hd hGN;clear hN1 hN2 hN3 hGN
 have hsTwo:SmallG 800 gvTwo:=fun j nd hj=>by
  have:=List.mem_of_getElem? hj;simp [gvTwo,nodV] at this;rcases this with rfl | rfl <;> simp
 have hsNoted:SmallG 800 gvNoted:=fun j nd hj=>by
  have:=List.mem_of_getElem? hj;simp [gvNoted] at this;subst this;simp
 have hsOwn:SmallG 800 gvOwn:=fun j nd hj=>by
  have:=List.mem_of_getElem? hj;simp [gvOwn,nodV] at this;subst this;simp
 have hsNone:SmallG 800 gvNone:=fun j nd hj=>by
  have:=List.mem_of_getElem? hj;simp [gvNone] at this
 have C1:=gShapes_any HGTwo.out hsTwo;rw [shapes_two] at C1;have HC1:=Hd C1;clear C1
 go_wp2_with fail
 refine HC1.out.mono ?_;rintro e1 w4 ⟨⟨A1,m1,c1,rfl,hc1,hL1⟩,hb1⟩;obtain rfl:m1=2:=by have:=hL1.1;simpa using this.symm
 have H4:=Hd (H3.out.below hb1);have HOwn:=Hd (HGOwn.out.below hb1);have HNoted:=Hd (HGNoted.out.below hb1);obtain ⟨a1,S1,sn1,sc1,rfl,hab,cS1,hsc1,hS1⟩:=hL1.2.2 1 [3,2] rfl;have HB4:=Hd (Below.refl w4.heap.size w4);have HS1:=Hd hS1;have HAB:=Hd hab;have HCS:=Hd cS1;clear hL1 hb1 HC1 hS1 cS1 hab;have C2:=gRight_any (HGN.out w4) hsNone;rw [shapes_none] at C2
 go_wp2_with fail
 refine C2.mono ?_;rintro e2 w5 ⟨rfl,hb2⟩;have HB5:=Hd hb2;have H5:=Hd (H4.out.below hb2);clear C2 hb2;have CC:=gRight_any (HOwn.out.below HB5.out) hsOwn;rw [shapes_own] at CC;obtain ⟨g0,g1,g2,g3⟩:=H5.out.cells4 8 rfl;obtain ⟨k0,k1,k2,k3⟩:=H5.out.cells4 4 rfl
 go_wp2_with fail
 refine CC.mono ?_;rintro e9 w6 ⟨rfl,hb9⟩;have H6:=Hd (H5.out.below hb9);have HB6:=Hd (then_ HB5.out hb9);clear CC hb9 g0 g1 g2 g3 k0 k1 k2 k3;have CC:=gRight_any (HNoted.out.below HB6.out) hsNoted;rw [shapes_noted] at CC;obtain ⟨g0,g1,g2,g3⟩:=H6.out.cells4 8 rfl;obtain ⟨k0,k1,k2,k3⟩:=H6.out.cells4 4 rfl
 go_wp2_with fail
 refine CC.mono ?_;rintro e9 w7 ⟨rfl,hb9⟩;have H7:=Hd (H6.out.below hb9);have HB7:=Hd (then_ HB6.out hb9);clear CC hb9 g0 g1 g2 g3 k0 k1 k2 k3;have hq:=H7.out.lit 3 #[.int .i64 3,.int .i64 2] [3,2] 2 w7.heap.size rfl rfl rfl;have HQ:=Hd hq;have HB7b:=Hd (HB7.out.alloc HB7.out.size (.cells #[.int .i64 3,.int .i64 2] 3))
 have cl0:w7.cell? ⟨a1.block,a1.off+1,none⟩=some (.slice S1 sn1 sc1):=by
  rw [show (⟨a1.block,a1.off+1,none⟩:Addr)=a1.add 1 from rfl];exact (HB7.out.cell (by rw [block_of_add];exact HAB.out)).trans HCS.out
 have CC:=bookSame_eq (c:=sc1) (d:=2) (HS1.out.below HB7b.out) ((HQ.out.ownInts 0 rfl).2.2);clear hq
 go_wp2_with fail
 refine CC.mono ?_;rintro e9 w8 ⟨rfl,q8,hw8⟩;have H8:=Hd (HQ.out.drewN q8);have HB8:=Hd (below_drewN HB7b.out q8);rw [← hw8] at H8 HB8;clear CC hw8 cl0;have CC:=gParams_any (HNoted.out.below HB8.out);rw [par_noted] at CC;obtain ⟨g0,g1,g2,g3⟩:=H8.out.cells4 9 rfl;obtain ⟨k0,k1,k2,k3⟩:=H8.out.cells4 5 rfl
 go_wp2_with fail
 refine CC.mono ?_;rintro e9 w9 ⟨⟨v9,m9,rfl,hO9⟩,hb9⟩;obtain ⟨A9,c9,rfl,_,_,_⟩:=hO9.form;have H9:=Hd (H8.out.addOwn hb9 hO9);have HB9:=Hd (then_ HB8.out hb9);clear CC hb9 hO9 g0 g1 g2 g3 k0 k1 k2 k3;have hq:=H9.out.lit 3 #[.int .i64 0] [0] 1 w9.heap.size rfl rfl rfl;have HQ2:=Hd hq;have HB9b:=Hd (HB9.out.alloc HB9.out.size (.cells #[.int .i64 0] 3));clear hq;have CC:=bookSame_eq (c:=c9) (d:=1) ((HQ2.out.ownInts 1 rfl).2.2) ((HQ2.out.ownInts 0 rfl).2.2)
 go_wp2_with fail
 refine CC.mono ?_;rintro e9 w10 ⟨rfl,q10,hw10⟩;have H10:=Hd (HQ2.out.drewN q10);have HB10:=Hd (below_drewN HB9b.out q10);rw [← hw10] at H10 HB10;clear CC hw10;have CC:=gSame_any (HOwn.out.below HB10.out) (HOwn.out.below HB10.out);rw [sameG_yes rfl] at CC;obtain ⟨g0,g1,g2,g3⟩:=H10.out.cells4 11 rfl;obtain ⟨k0,k1,k2,k3⟩:=H10.out.cells4 7 rfl
 go_wp2_with fail
 refine CC.mono ?_;rintro e9 w11 ⟨rfl,hb9⟩;have H11:=Hd (H10.out.below hb9);have HB11:=Hd (then_ HB10.out hb9);clear CC hb9 g0 g1 g2 g3 k0 k1 k2 k3;have CC:=gSame_any (HOwn.out.below HB11.out) (HNoted.out.below HB11.out);rw [own_noted] at CC;obtain ⟨g0,g1,g2,g3⟩:=H11.out.cells4 11 rfl;obtain ⟨k0,k1,k2,k3⟩:=H11.out.cells4 7 rfl
 go_wp2_with fail
 refine CC.mono ?_;rintro e9 w12 ⟨rfl,hb9⟩;have H12:=Hd (H11.out.below hb9);clear CC hb9 g0 g1 g2 g3 k0 k1 k2 k3;go_wp2;go_ret;exact ⟨by trivial,H12.out.base⟩
end Go.Proofs.Ytnnmplkgenhofaa
