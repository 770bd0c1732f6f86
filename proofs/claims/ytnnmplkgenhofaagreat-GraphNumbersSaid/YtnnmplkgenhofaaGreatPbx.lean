import Derived.Test.YtnnmplkgenhofaaGreatPac
import Derived.Test.YtnnmplkgenhofaaGreatPae
import Derived.Test.YtnnmplkgenhofaaGreatPaf
import Derived.Test.YtnnmplkgenhofaaGreatPbk
import Derived.Test.YtnnmplkgenhofaaGreatPbw
set_option maxRecDepth 100000
set_option maxHeartbeats 12800000
namespace Go.Proofs.YtnnmplkgenhofaaGreat
open Go.RowKit
theorem rn0:RightN [] 0:=⟨by decide,by decide,rfl,fun i x h=>by simp at h⟩
theorem rn1:RightN [120] 1:=⟨by decide,by decide,rfl,fun i x h=>by
 match i,h with
 | 0,h=>simp at h;subst h;exact⟨by unfold badR;omega,rfl⟩
 | i+1,h=>simp at h⟩
def nodV (op:Int) (ins shape a:List Int):NodeV:=⟨op,ins,shape,a,0,0,⟨#[]⟩⟩
def gvNone:GraphV:=⟨[],⟨#[]⟩,[],[]⟩
def gvOwn:GraphV:=⟨[],⟨#[]⟩,[nodV 4 [0] [] []],[]⟩
def gvNoted:GraphV:=⟨[2],⟨#[120]⟩,[⟨1,[],[2],[],0,0,⟨#[120,46]⟩⟩],[]⟩
def gvTwo:GraphV:=⟨[],⟨#[]⟩,[nodV 1 [] [2,3] [],nodV 13 [0] [] [1,0]],[]⟩
theorem mesh0 (N:List NodeV) (O:List Int):meshF ⟨[],⟨#[]⟩,N,O⟩=true:=by
 rw[mesh_end (by show 0≤3;omega) (fun i x h=>by simp at h)]
 show(decide (Sh.pr []≤8) && rightB (runesOf ⟨#[]⟩) 0)=true
 rw[show runesOf ⟨#[]⟩=[] from rfl,rightB_yes rn0];decide
theorem shapes_none:shapesR gvNone=(0,[]):=by
 rw[shapesR_end (G:=gvNone) (mesh0 _ _) ⟨by show 0≤48;omega,by show 0≤48;omega⟩ (l:=[]) rfl];rfl
theorem shapes_own:shapesR gvOwn=(23,[]):=by
 refine shapesR_go (mesh0 _ _) ⟨by show 1≤48;omega,by show 0≤48;omega⟩ (l:=[]) ?_ (by decide)
 show shapesGo _ [] [nodV 4 [0] [] []]=_
 rw[shapesGo,show insOk [] (nodV 4 [0] [] []).ins=false from insOk_bad (j:=0) (x:=0) rfl (by simp)]
 rfl
theorem shape_param (s:List Int) (t:ByteArray) (h:Sh.right s=true):shapeR ⟨1,[],s,[],0,0,t⟩ []=(0,s):=by
 rw[shapeR,show formF ⟨1,[],s,[],0,0,t⟩ ([]:List (List Int)).length=true from rfl,if_pos rfl,show([]:List (List Int)).all Sh.right=true from rfl,if_pos rfl,if_pos rfl,if_pos h]
theorem shapes_noted:shapesR gvNoted=(14,[]):=by
 have hm:meshF gvNoted=true:=by
  rw[mesh_end (by show 1≤3;omega) (fun i x h=>by
   match i,h with
   | 0,h=>simp[gvNoted] at h;subst h;omega
   | i+1,h=>simp[gvNoted] at h)]
  show(decide (Sh.pr [2]≤8) && rightB (runesOf ⟨#[120]⟩) 1)=true
  rw[show runesOf ⟨#[120]⟩=[120] from by kernel_rfl,rightB_yes rn1];decide
 refine shapesR_go hm ⟨by show 1≤48;omega,by show 0≤48;omega⟩ (l:=[]) ?_ (by decide)
 show shapesGo (runesOf ⟨#[120]⟩) [] [⟨1,[],[2],[],0,0,⟨#[120,46]⟩⟩]=_
 rw[show runesOf ⟨#[120]⟩=[120] from by kernel_rfl,shapesGo,if_pos (show insOk [] _=true from rfl)];rw[show insOf [] (⟨1,[],[2],[],0,0,⟨#[120,46]⟩⟩:NodeV).ins=[] from rfl,shape_param [2] _ (by decide),if_pos rfl]
 have hn:noteE [120] ⟨1,[],[2],[],0,0,⟨#[120,46]⟩⟩ ([2]:List Int).length=14:=by
  rw[noteE,show runesOf (⟨1,[],[2],[],0,0,⟨#[120,46]⟩⟩:NodeV).note=[120,46] from by kernel_rfl];rw[noteR_rank (out:=[0,-1]) (by decide) (by decide) (by decide) (by decide)]
 rw[hn,if_neg (by decide)]
theorem shape_turn:shapeR (nodV 13 [0] [] [1,0]) [[2,3]]=(0,[3,2]):=by
 have hok:TuOk [2,3] [1,0]:=⟨rfl,fun i x hx=>by
  match i,hx with
  | 0,hx=>simp at hx;subst hx;exact⟨by omega,by show(1:Int)<2;omega,by simp⟩
  | 1,hx=>simp at hx;subst hx;exact⟨by omega,by show(0:Int)<2;omega,by simp⟩
  | i+2,hx=>simp at hx⟩
 rw[shapeR,if_pos (show formF (nodV 13 [0] [] [1,0]) (([[2,3]]:List (List Int)).length:Nat)=true from rfl),if_pos (show([[2,3]]:List (List Int)).all Sh.right=true from by decide),if_neg (show ¬ (nodV 13 [0] [] [1,0]).op=1 from by decide)]
 have hw:workR (nodV 13 [0] [] [1,0]) (([[2,3]]:List (List Int)).map zeros)=turnR (zeros [2,3]).1 (zeros [2,3]).2 [1,0]:=by
  rw[workR,if_neg (by decide),if_neg (by decide),if_neg (by decide),if_neg (by decide),if_pos (by decide)];rfl
 rw[hw,turnR_ok (zeros_right (by decide)) hok,if_pos rfl];rfl
theorem shapes_two:shapesR gvTwo=(0,[[2,3],[3,2]]):=by
 have hE:∀(nd:NodeV) (r:Nat),nd.note=⟨#[]⟩→noteE [] nd r=0:=fun nd r h=>noteE_none h
 have hg:shapesGo (runesOf gvTwo.names) [] gvTwo.nodes=(0,[[2,3],[3,2]]):=by
  show shapesGo (runesOf ⟨#[]⟩) [] [nodV 1 [] [2,3] [],nodV 13 [0] [] [1,0]]=_
  rw[show runesOf ⟨#[]⟩=[] from rfl,shapesGo,if_pos (show insOk [] _=true from rfl),show insOf [] (nodV 1 [] [2,3] []).ins=[] from rfl,show shapeR (nodV 1 [] [2,3] []) []=(0,[2,3]) from shape_param _ _ (by decide),if_pos rfl,hE _ _ rfl,if_pos rfl]
  rw[shapesGo,if_pos (show insOk _ _=true from insOk_good (fun i x h=>by
   match i,h with
   | 0,h=>simp[nodV] at h;subst h;simp
   | i+1,h=>simp[nodV] at h)),show insOf ([]++[[2,3]]) (nodV 13 [0] [] [1,0]).ins=[[2,3]] from rfl,shape_turn,if_pos rfl,hE _ _ rfl,if_pos rfl,shapesGo];rfl
 rw[shapesR_end (G:=gvTwo) (mesh0 _ _) ⟨by show 2≤48;omega,by show 0≤48;omega⟩ hg];rfl
theorem par_noted:parF 0 gvNoted.nodes=[0]:=by decide
theorem own_noted:sameG gvOwn gvNoted=false:=sameG_no (fun h=>by
 have:=congrArg GraphV.sizes h
 cases this)
theorem text_eq (t:ByteArray):(t.toList==t.toList)=true:=by simp
theorem refInts_eq {w:World} {A B:Option Addr} {n c m d:Nat} {xs:List Int} (h:Ints w A n xs) (g:Ints w B m xs) :
  Calls Tryz.prog 44 #[.slice A n c,.slice B m d] w fun e w' => e=.returned (.bool true)∧∃ k,w' = w.drewN k :=
 (refInts_any h g).mono fun _ _ ⟨he,hw⟩=>⟨he.trans (ret_bool (by simp)),hw⟩
theorem ref10Nodes_eq {w:World} {v u:Value} {nd:NodeV} (h:NodeIs w v nd) (g:NodeIs w u nd) :
  Calls Tryz.prog 45 #[v,u] w fun e w' => e=.returned (.bool true)∧Below w.heap.size w w' := by
 obtain⟨A1,na1,ca1,B1,nb1,cb1,C1,nc1,cc1,rfl,hL1⟩:=h;obtain⟨A2,na2,ca2,B2,nb2,cb2,C2,nc2,cc2,rfl,hL2⟩:=g;have h1:=((Sep.nil w).allocBox w.heap.size 34 [.int .i64 nd.op,.slice A1 na1 ca1,.slice B1 nb1 cb1,.slice C1 nc1 cc1,.int .i64 nd.n,.int .i64 nd.how,.string nd.note] rfl).allocBox (w.heap.size+1) 34 [.int .i64 nd.op,.slice A2 na2 ca2,.slice B2 nb2 cb2,.slice C2 nc2 cc2,.int .i64 nd.n,.int .i64 nd.how,.string nd.note] (by simp);have HL1:=Hd hL1;have HL2:=Hd hL2;clear hL1 hL2
 go_enter Tryz.func45,Tryz.ntmps45
 go_upto_region 1 with fail
 generalize (w.alloc (.cells #[.int .i64 nd.op,.slice A1 na1 ca1,.slice B1 nb1 cb1,.slice C1 nc1 cc1,.int .i64 nd.n,.int .i64 nd.how,.string nd.note] 34)).alloc (.cells #[.int .i64 nd.op,.slice A2 na2 ca2,.slice B2 nb2 cb2,.slice C2 nc2 cc2,.int .i64 nd.n,.int .i64 nd.how,.string nd.note] 34)=W at *;have H:=Hd h1;clear h1;have ht:=text_eq nd.note;obtain⟨n0,n1,n2,n3,n4,n5,n6⟩:=H.out.cells7 1 rfl;obtain⟨m0,m1,m2,m3,m4,m5,m6⟩:=H.out.cells7 0 rfl
 go_wp2_with fail
 refine(refInts_eq (HL1.out.inA.below H.out.base) (HL2.out.inA.below H.out.base)).mono ?_;rintro e0 w0 ⟨rfl,k0,rfl⟩;clear n0 m0 n1 m1 n2 m2 n3 m3 n4 m4 n5 m5 n6 m6;replace H:=Hd (H.out.drewN k0);obtain⟨v0,hv0⟩:∃ v,World.drewN W k0=v:=⟨_,rfl⟩;rw[hv0] at H ⊢;clear hv0;obtain⟨n0,n1,n2,n3,n4,n5,n6⟩:=H.out.cells7 1 rfl;obtain⟨m0,m1,m2,m3,m4,m5,m6⟩:=H.out.cells7 0 rfl
 go_wp2_with fail
 refine(refInts_eq (HL1.out.inB.below H.out.base) (HL2.out.inB.below H.out.base)).mono ?_;rintro e1 w1 ⟨rfl,k1,rfl⟩;clear n0 m0 n1 m1 n2 m2 n3 m3 n4 m4 n5 m5 n6 m6;replace H:=Hd (H.out.drewN k1);obtain⟨v1,hv1⟩:∃ v,World.drewN v0 k1=v:=⟨_,rfl⟩;rw[hv1] at H ⊢;clear hv1;obtain⟨n0,n1,n2,n3,n4,n5,n6⟩:=H.out.cells7 1 rfl;obtain⟨m0,m1,m2,m3,m4,m5,m6⟩:=H.out.cells7 0 rfl
 go_wp2_with fail
 refine(refInts_eq (HL1.out.inC.below H.out.base) (HL2.out.inC.below H.out.base)).mono ?_;rintro e2 w2 ⟨rfl,k2,rfl⟩;clear n0 m0 n1 m1 n2 m2 n3 m3 n4 m4 n5 m5 n6 m6;replace H:=Hd (H.out.drewN k2);obtain⟨v2,hv2⟩:∃ v,World.drewN v1 k2=v:=⟨_,rfl⟩;rw[hv2] at H ⊢;clear hv2;obtain⟨n0,n1,n2,n3,n4,n5,n6⟩:=H.out.cells7 1 rfl;obtain⟨m0,m1,m2,m3,m4,m5,m6⟩:=H.out.cells7 0 rfl;go_wp2;go_ret;exact⟨rfl,H.out.base⟩
theorem ref10Same_eq {w:World} {v u:Value} {G:GraphV} (h:GraphIs w v G) (g:GraphIs w u G) :
  Calls Tryz.prog 24 #[v,u] w fun e w' => e=.returned (.bool true)∧Below w.heap.size w w' := by
 obtain⟨A1,na1,ca1,B1,nb1,cb1,C1,nc1,cc1,rfl,hL1⟩:=h;obtain⟨A2,na2,ca2,B2,nb2,cb2,C2,nc2,cc2,rfl,hL2⟩:=g;have h1:=((Sep.nil w).allocBox w.heap.size 25 [.slice A1 na1 ca1,.string G.names,.slice B1 nb1 cb1,.slice C1 nc1 cc1] rfl).allocBox (w.heap.size+1) 25 [.slice A2 na2 ca2,.string G.names,.slice B2 nb2 cb2,.slice C2 nc2 cc2] (by simp);obtain rfl:nb1=nb2:=hL1.inB.1.symm.trans hL2.inB.1;have hnb:=hL1.inB.2.1;have HBL:=Hd hL1.inB.1;have HL1:=Hd hL1;have HL2:=Hd hL2;clear hL1 hL2
 go_enter Tryz.func24,Tryz.ntmps24
 go_upto_region 1 with fail
 generalize (w.alloc (.cells #[.slice A1 na1 ca1,.string G.names,.slice B1 nb1 cb1,.slice C1 nc1 cc1] 25)).alloc (.cells #[.slice A2 na2 ca2,.string G.names,.slice B2 nb1 cb2,.slice C2 nc2 cc2] 25)=W at *;have H:=Hd h1;clear h1;have ht:=text_eq G.names;have hne:((nb1:Int) != (nb1:Int))=false:=by simp
 obtain⟨n0,n1,n2,n3⟩:=H.out.cells4 1 rfl;obtain⟨m0,m1,m2,m3⟩:=H.out.cells4 0 rfl
 go_wp2_with fail
 refine(refInts_eq (HL1.out.inA.below H.out.base) (HL2.out.inA.below H.out.base)).mono ?_;rintro e0 w0 ⟨rfl,k0,rfl⟩;clear n0 m0 n1 m1 n2 m2 n3 m3;replace H:=Hd (H.out.drewN k0);obtain⟨v0,hv0⟩:∃ v,World.drewN W k0=v:=⟨_,rfl⟩;rw[hv0] at H ⊢;clear hv0;obtain⟨n0,n1,n2,n3⟩:=H.out.cells4 1 rfl;obtain⟨m0,m1,m2,m3⟩:=H.out.cells4 0 rfl
 go_wp2_with fail
 refine(refInts_eq (HL1.out.inC.below H.out.base) (HL2.out.inC.below H.out.base)).mono ?_;rintro e1 w1 ⟨rfl,k1,rfl⟩;clear n0 m0 n1 m1 n2 m2 n3 m3;replace H:=Hd (H.out.drewN k1);obtain⟨v1,hv1⟩:∃ v,World.drewN v0 k1=v:=⟨_,rfl⟩;rw[hv1] at H ⊢;clear hv1;obtain⟨n0,n1,n2,n3⟩:=H.out.cells4 1 rfl;obtain⟨m0,m1,m2,m3⟩:=H.out.cells4 0 rfl
 go_wp2_with fail
 clear n0 m0 n1 m1 n2 m2 n3 m3
 go_loopw [39] (fun iv wr=>∃ j:Nat,iv=.int .i64 j∧j≤nb1∧Sep w wr [.box (w.heap.size+1) 25 [.slice A2 na2 ca2,.string G.names,.slice B2 nb1 cb2,.slice C2 nc2 cc2],.box w.heap.size 25 [.slice A1 na1 ca1,.string G.names,.slice B1 nb1 cb1,.slice C1 nc1 cc1]]) (fun iv _=>nb1-(intOf iv).toNat)
 case atStart=>exact⟨0,rfl,by omega,H.out⟩
 case round =>
  clear H;obtain⟨j,rfl,hj,hS⟩:=hrel;have H:=Hd hS;clear hS;by_cases hlt:j<nb1
  ·obtain⟨nd,hnd⟩:∃ nd,G.nodes[j]? = some nd:=⟨_,List.getElem?_eq_getElem (by have:=HBL.out;omega)⟩;obtain⟨l1,P1,p1,q1,Q1,r1,s1,R1,t1,u1,hl1,hb1,k10,k11,k12,k13,k14,k15,k16,hN1⟩:=HL1.out.inB.2.2 j nd hnd;subst hl1;obtain⟨l2,P2,p2,q2,Q2,r2,s2,R2,t2,u2,hl2,hb2,k20,k21,k22,k23,k24,k25,k26,hN2⟩:=HL2.out.inB.2.2 j nd hnd;subst hl2;obtain⟨w9,rfl⟩:∃ w9:World,w9=wr:=⟨_,rfl⟩
   go_upto_region 6 with fail
   have H0:=Hd H.out.drew;have f0:=H.out.cell 1 2 rfl rfl;have f1:=H.out.cell 0 2 rfl rfl;obtain⟨f2,f3,f4,f5,f6,f7,f8⟩:=old7 H.out hb1 k10 k11 k12 k13 k14 k15 k16;obtain⟨f9,f10,f11,f12,f13,f14,f15⟩:=old7 H.out hb2 k20 k21 k22 k23 k24 k25 k26
   go_region_held3 (fun w' => w'.cell? ⟨w.heap.size,2,none⟩=some (.slice (some l1) nb1 cb1)∧w'.cell? ⟨w.heap.size+1,2,none⟩=some (.slice (some l2) nb1 cb2)∧w'.cell? (l1.add (j*7))=some (.int .i64 nd.op)∧w'.cell? ⟨(l1.add (j*7)).block,(l1.add (j*7)).off+1,none⟩=some (.slice P1 p1 q1)∧w'.cell? ⟨(l1.add (j*7)).block,(l1.add (j*7)).off+2,none⟩=some (.slice Q1 r1 s1)∧w'.cell? ⟨(l1.add (j*7)).block,(l1.add (j*7)).off+3,none⟩=some (.slice R1 t1 u1)∧w'.cell? ⟨(l1.add (j*7)).block,(l1.add (j*7)).off+4,none⟩=some (.int .i64 nd.n)∧w'.cell? ⟨(l1.add (j*7)).block,(l1.add (j*7)).off+5,none⟩=some (.int .i64 nd.how)∧w'.cell? ⟨(l1.add (j*7)).block,(l1.add (j*7)).off+6,none⟩=some (.string nd.note)∧w'.cell? (l2.add (j*7))=some (.int .i64 nd.op)∧w'.cell? ⟨(l2.add (j*7)).block,(l2.add (j*7)).off+1,none⟩=some (.slice P2 p2 q2)∧w'.cell? ⟨(l2.add (j*7)).block,(l2.add (j*7)).off+2,none⟩=some (.slice Q2 r2 s2)∧w'.cell? ⟨(l2.add (j*7)).block,(l2.add (j*7)).off+3,none⟩=some (.slice R2 t2 u2)∧w'.cell? ⟨(l2.add (j*7)).block,(l2.add (j*7)).off+4,none⟩=some (.int .i64 nd.n)∧w'.cell? ⟨(l2.add (j*7)).block,(l2.add (j*7)).off+5,none⟩=some (.int .i64 nd.how)∧w'.cell? ⟨(l2.add (j*7)).block,(l2.add (j*7)).off+6,none⟩=some (.string nd.note)) (go_keep)
    (first|(go_at_call 45;refine(ref10Nodes_eq (show NodeIs _ _ nd from⟨P1,p1,q1,Q1,r1,s1,R1,t1,u1,rfl,hN1.below H0.out.base⟩) (show NodeIs _ _ nd from⟨P2,p2,q2,Q2,r2,s2,R2,t2,u2,rfl,hN2.below H0.out.base⟩)).mono ?_;rintro e7 w7 ⟨rfl,hb7⟩;have H7:=Hd (H0.out.below hb7);have e0:=H7.out.cell 1 2 rfl rfl;have e1:=H7.out.cell 0 2 rfl rfl;have e2:=H7.out.oldCell (p:=(l1.add (j*7))) (blk_add hb1) k10;have e3:=H7.out.oldCell (p:=⟨(l1.add (j*7)).block,(l1.add (j*7)).off+1,none⟩) (blk_add hb1) k11;have e4:=H7.out.oldCell (p:=⟨(l1.add (j*7)).block,(l1.add (j*7)).off+2,none⟩) (blk_add hb1) k12;have e5:=H7.out.oldCell (p:=⟨(l1.add (j*7)).block,(l1.add (j*7)).off+3,none⟩) (blk_add hb1) k13;have e6:=H7.out.oldCell (p:=⟨(l1.add (j*7)).block,(l1.add (j*7)).off+4,none⟩) (blk_add hb1) k14;have e7:=H7.out.oldCell (p:=⟨(l1.add (j*7)).block,(l1.add (j*7)).off+5,none⟩) (blk_add hb1) k15;have e8:=H7.out.oldCell (p:=⟨(l1.add (j*7)).block,(l1.add (j*7)).off+6,none⟩) (blk_add hb1) k16;have e9:=H7.out.oldCell (p:=(l2.add (j*7))) (blk_add hb2) k20;have e10:=H7.out.oldCell (p:=⟨(l2.add (j*7)).block,(l2.add (j*7)).off+1,none⟩) (blk_add hb2) k21;have e11:=H7.out.oldCell (p:=⟨(l2.add (j*7)).block,(l2.add (j*7)).off+2,none⟩) (blk_add hb2) k22;have e12:=H7.out.oldCell (p:=⟨(l2.add (j*7)).block,(l2.add (j*7)).off+3,none⟩) (blk_add hb2) k23;have e13:=H7.out.oldCell (p:=⟨(l2.add (j*7)).block,(l2.add (j*7)).off+4,none⟩) (blk_add hb2) k24;have e14:=H7.out.oldCell (p:=⟨(l2.add (j*7)).block,(l2.add (j*7)).off+5,none⟩) (blk_add hb2) k25;have e15:=H7.out.oldCell (p:=⟨(l2.add (j*7)).block,(l2.add (j*7)).off+6,none⟩) (blk_add hb2) k26;clear hb7))
   go_wp2;go_roundw
   case rel=>exact⟨j+1,by go_num,by omega,H7.out⟩
   case measure=>simp[intOf];omega
  ·obtain rfl:j=nb1:=by omega
   go_wp2;go_ret;exact⟨rfl,H.out.base⟩
theorem rows_eq {w:World} {A B:Option Addr} {n c m d:Nat} {L:List (List Int)} (h:Lils w A n L) (g:Lils w B m L) :
  Calls Tryz.prog 19 #[.slice A n c,.slice B m d] w fun e w' => e=.returned (.bool true)∧∃ k,w' = w.drewN k:=by
 obtain rfl:n=m:=h.1.symm.trans g.1;have HL:=Hd h.1;have hn9:=h.2.1;have HA:=Hd h;have HB:=Hd g;clear h g
 go_enter Tryz.func19,Tryz.ntmps19
 have dn:((n:Int) != (n:Int))=false:=by simp
 go_wp2_with fail
 go_loopw [13] (fun iv wr=>∃(j q:Nat),iv=.int .i64 j∧j≤n∧wr=w.drewN q) (fun iv _=>n-(intOf iv).toNat)
 case atStart=>exact⟨0,0,rfl,by omega,rfl⟩
 case round =>
  obtain⟨j,q,rfl,hj,hw⟩:=hrel;have HW:=Hd hw;have hA2:Lils wr (A) n L:=by rw[hw];exact HA.out
  have hB2:Lils wr (B) n L:=by rw[hw];exact HB.out
  clear hw;by_cases hlt:j<n
  ·obtain⟨x,hx⟩:∃ x,L[j]? = some x:=⟨_,List.getElem?_eq_getElem (by have:=HL.out;omega)⟩;obtain⟨a,S,sn,sc,hAa,_,c0,_,hI⟩:=hA2.2.2 j x hx;obtain⟨b,T,tn,tc,hBb,_,c1,_,hJ⟩:=hB2.2.2 j x hx;have CS:=fun k:Nat=>bookSame_eq (w:=wr.drewN k) (c:=sc) (d:=tc) (hI.drewN k) (hJ.drewN k)
   have HCS:=Hd CS;clear CS hI hJ hx hA2 hB2;subst hAa;subst hBb
   go_upto_region 6 with fail
   go_quiet ((go_at_call 21;with_reducible exact(HCS.out _).mono fun _ _ ⟨e,q,h⟩=>⟨e,_,h.trans (World.drewN_drewN _ _ _)⟩))
   go_wp2;go_roundw
   case rel=>exact⟨j+1,_,by go_num,by omega,by rw[HW.out,World.drewN_drewN]⟩
   case measure=>simp[intOf];omega
  ·obtain rfl:j=n:=by omega
   clear hA2 hB2;go_wp2;go_ret;exact⟨by trivial,q,HW.out⟩
theorem l10node_any {w:World} {v:Value} {nd:NodeV} {Al:Option Addr} {nl cl:Nat} {L:List (List Int)} (h:NodeIs w v nd) (hLi:Lils w Al nl L) (hncl:nl≤cl:=by omega) :
  Calls Tryz.prog 8 #[v,.slice Al nl cl] w fun e w' => e=.returned (.bool true)∧Below w.heap.size w w' := by
 have HN:=Hd h;obtain⟨A,na,ca,B,nb,cb,C,nc,cc,rfl,hL⟩:=h;clear hL;have h1:=(Sep.nil w).allocBox w.heap.size 34 [.int .i64 nd.op,.slice A na ca,.slice B nb cb,.slice C nc cc,.int .i64 nd.n,.int .i64 nd.how,.string nd.note] rfl;have HLI:=Hd hLi;clear hLi;obtain⟨⟨e5,s5⟩,hR⟩:∃ r,shapeR nd L=r:=⟨_,rfl⟩;have HR:=Hd hR;clear hR
 go_enter Tryz.func8,Tryz.ntmps8
 go_upto_region 1 with fail
 generalize w.alloc (.cells #[.int .i64 nd.op,.slice A na ca,.slice B nb cb,.slice C nc cc,.int .i64 nd.n,.int .i64 nd.how,.string nd.note] 34)=w1 at *;have H:=Hd h1;clear h1;obtain⟨x0,x1,x2,x3,x4,x5,x6⟩:=H.out.cells7 0 rfl;have C1:=gShape_any (cl:=cl) (HN.out.below H.out.base) (HLI.out.below H.out.base);rw[HR.out] at C1
 go_wp2_with fail
 refine C1.mono ?_;rintro e1 w2 ⟨⟨v1,m1,rfl,hO1⟩,hb1⟩;obtain⟨A1,c1,rfl,hc1,_,_⟩:=hO1.form;replace H:=Hd (H.out.addOwn hb1 hO1);clear C1 hb1 hO1 x0 x1 x2 x3 x4 x5 x6;obtain⟨x0,x1,x2,x3,x4,x5,x6⟩:=H.out.cells7 1 rfl;have C2:=ref10Shape_any (cl:=cl) (HN.out.below H.out.base) (HLI.out.below H.out.base);rw[HR.out] at C2
 go_wp2_with fail
 refine C2.mono ?_;rintro e2 w3 ⟨⟨v2,m2,rfl,hO2⟩,hb2⟩;obtain⟨A2,c2,rfl,hc2,_,_⟩:=hO2.form;replace H:=Hd (H.out.addOwn hb2 hO2);clear C2 hb2 hO2 x0 x1 x2 x3 x4 x5 x6;have ke:(e5==e5)=true:=by simp
 have C3:=bookSame_eq (c:=c1) (d:=c2) (H.out.ownInts 1 rfl).2.2 (H.out.ownInts 0 rfl).2.2
 go_wp2_with fail
 refine C3.mono ?_;rintro e3 w4 ⟨rfl,k3,rfl⟩;clear C3;go_wp2;go_ret;exact⟨by trivial,(H.out.drewN k3).base⟩
theorem l10same_any {w:World} {v:Value} {G:GraphV} (h:GraphIs w v G) (hf:FewG 800 G) :
  Calls Tryz.prog 6 #[v] w fun e w' => e=.returned (.bool true)∧Below w.heap.size w w' := by
 have HG:=Hd h;obtain⟨A,na,ca,B,nb,cb,C,nc,cc,rfl,hL⟩:=h;clear hL;have HFW:=Hd hf;have HS:=Hd hf.small;clear hf;have h1:=(Sep.nil w).allocBox w.heap.size 25 [.slice A na ca,.string G.names,.slice B nb cb,.slice C nc cc] rfl;obtain⟨⟨e5,L5⟩,hR⟩:∃ r,shapesR G=r:=⟨_,rfl⟩;have HR:=Hd hR;obtain⟨P5,hP⟩:∃ r,parF 0 G.nodes=r:=⟨_,rfl⟩;have HP:=Hd hP;clear hR hP
 go_enter Tryz.func6,Tryz.ntmps6
 go_upto_region 1 with fail
 generalize w.alloc (.cells #[.slice A na ca,.string G.names,.slice B nb cb,.slice C nc cc] 25)=w1 at *;have H:=Hd h1;clear h1;obtain⟨g0,g1,g2,g3⟩:=H.out.cells4 0 rfl;have C1:=gShapes_any (HG.out.below H.out.base) HS.out;rw[HR.out] at C1
 go_wp2_with fail
 refine C1.mono ?_;rintro e1 w2 ⟨⟨A1,m1,c1,rfl,hc1,hL1⟩,hb1⟩;replace H:=Hd (H.out.below hb1);have HL1:=Hd hL1;have HW1:=Hd (Below.refl w2.heap.size w2);clear C1 hb1 hL1 g0 g1 g2 g3;obtain⟨g0,g1,g2,g3⟩:=H.out.cells4 0 rfl;have C2:=ref10Shapes_any (HG.out.below H.out.base) HS.out;rw[HR.out] at C2
 go_wp2_with fail
 refine C2.mono ?_;rintro e2 w3 ⟨⟨A2,m2,c2,rfl,hc2,hL2⟩,hb2⟩;replace H:=Hd (H.out.below hb2);have HL1' := Hd (HL1.out.below hb2);have HL2:=Hd hL2;clear C2 hb2 hL2 g0 g1 g2 g3;have ke:(e5==e5)=true:=by simp
 go_upto_region 3 with fail
 have HD:=Hd H.out.drew;obtain⟨g0,g1,g2,g3⟩:=HD.out.cells4 0 rfl;refine wp_region_held_drew (S:=(fun w' => w'.cell? ⟨w.heap.size,0,none⟩=some (.slice A na ca)∧w'.cell? ⟨w.heap.size,1,none⟩=some (.string G.names)∧w'.cell? ⟨w.heap.size,2,none⟩=some (.slice B nb cb)∧w'.cell? ⟨w.heap.size,3,none⟩=some (.slice C nc cc))) (by kernel_rfl) ?_ (fun hq_=>?_)
 ·exact⟨g0,g1,g2,g3⟩
 refine zW 0 hq_ ?_
 try simp only[pA]
 refine zW 1 hq_ ?_
 try simp only[pA]
 refine zW 2 hq_ ?_
 try simp only[pA]
 refine zW 3 hq_ ?_
 try simp only[pA]
 first|refine tU 4 hq_ ?_|refine zW 4 hq_ ?_
 try simp only[pA]
 first|refine tU 5 hq_ ?_|refine zW 5 hq_ ?_
 try simp only[pA]
 refine e1 6 fun K hK=>?_
 first|(refine effU ?_ ?_;(focus rfl))|(go_simp;(go_at_call 19;refine(rows_eq (c:=c1) (d:=c2) (HL1'.out.below ((Below.refl _ _).drew)) (HL2.out.below ((Below.refl _ _).drew))).mono ?_;rintro e4 z4 ⟨rfl,k4,hz4⟩;have K4:=Hd (HD.out.drewN k4);rw[← hz4] at K4;clear hz4;obtain ⟨g40,g41,g42,g43⟩:=K4.out.z4 0 rfl);go_wp2_with fail)
 refine zK hK ?_ ⟨g40,g41,g42,g43⟩;clear hK K hq_;intro hq_
 try simp only[pA]
 refine zW 7 hq_ ?_
 try simp only[pA]
 refine zW 8 hq_ ?_
 try simp only[pA]
 first|refine tU 9 hq_ ?_|refine zW 9 hq_ ?_
 try simp only[pA]
 first|refine tU 11 hq_ ?_|refine zW 11 hq_ ?_
 try simp only[pA]
 refine e1 10 fun K hK=>?_
 first|(refine effU ?_ ?_;(focus rfl))|(go_simp;(go_at_call 20;have CX:=gRight_any (HG.out.below K4.out.base) HS.out;rw[HR.out] at CX;refine CX.mono ?_;rintro e5 z5 ⟨rfl,hb5⟩;have K5:=Hd (K4.out.below hb5);clear CX hb5;obtain ⟨g50,g51,g52,g53⟩:=K5.out.z4 0 rfl);go_wp2_with fail)
 refine zK hK ?_ ⟨g50,g51,g52,g53⟩;clear hK K hq_;intro hq_
 try simp only[pA]
 first|refine tU 12 hq_ ?_|refine zW 12 hq_ ?_
 try simp only[pA]
 refine zW 13 hq_ ?_
 try simp only[pA]
 refine zW 14 hq_ ?_
 try simp only[pA]
 first|refine tU 15 hq_ ?_|refine zW 15 hq_ ?_
 try simp only[pA]
 first|refine tU 17 hq_ ?_|refine zW 17 hq_ ?_
 try simp only[pA]
 refine e1 16 fun K hK=>?_
 first|(refine effU ?_ ?_;(focus rfl))|(go_simp;(go_at_call 22;have CX:=gParams_any (HG.out.below K5.out.base);rw[HP.out] at CX;refine CX.mono ?_;rintro e6 z6 ⟨⟨v6,m6,rfl,hO6⟩,hb6⟩;obtain⟨A26,c26,rfl,_,_,_⟩:=hO6.form;have K6:=Hd (K5.out.addOwn hb6 hO6);clear CX hb6 hO6;obtain ⟨g60,g61,g62,g63⟩:=K6.out.z4 1 rfl);go_wp2_with fail)
 refine zK hK ?_ ⟨g60,g61,g62,g63⟩;clear hK K hq_;intro hq_
 try simp only[pA]
 refine e1 18 fun K hK=>?_
 first|(refine effU ?_ ?_;(focus rfl))|(go_simp;(go_at_call 23;have CX:=ref10Params_any (HG.out.below K6.out.base);rw[HP.out] at CX;refine CX.mono ?_;rintro e7 z7 ⟨⟨v7,m7,rfl,hO7⟩,hb7⟩;obtain⟨A27,c27,rfl,_,_,_⟩:=hO7.form;have K7:=Hd (K6.out.addOwn hb7 hO7);clear CX hb7 hO7;obtain ⟨g70,g71,g72,g73⟩:=K7.out.z4 2 rfl);go_wp2_with fail)
 refine zK hK ?_ ⟨g70,g71,g72,g73⟩;clear hK K hq_;intro hq_
 try simp only[pA]
 refine e1 19 fun K hK=>?_
 first|(refine effU ?_ ?_;(focus rfl))|(go_simp;(go_at_call 21;refine(bookSame_eq (c:=c26) (d:=c27) (K7.out.ownInts 1 rfl).2.2 (K7.out.ownInts 0 rfl).2.2).mono ?_;rintro e8 z8 ⟨rfl,k8,hz8⟩;have K8:=Hd (K7.out.drewN k8);rw[← hz8] at K8;clear hz8;obtain ⟨g80,g81,g82,g83⟩:=K8.out.z4 2 rfl);go_wp2_with fail)
 refine zK hK ?_ ⟨g80,g81,g82,g83⟩;clear hK K hq_;intro hq_
 try simp only[pA]
 refine zW 20 hq_ ?_
 try simp only[pA]
 refine zW 21 hq_ ?_
 try simp only[pA]
 first|refine tU 22 hq_ ?_|refine zW 22 hq_ ?_
 try simp only[pA]
 first|refine tU 24 hq_ ?_|refine zW 24 hq_ ?_
 try simp only[pA]
 refine e1 23 fun K hK=>?_
 first|(refine effU ?_ ?_;(focus rfl))|(go_simp;(go_at_call 25;have h9:=HG.out.below K8.out.base;refine(gCopy_any (q:=800) h9 HFW.out).mono ?_;intro e9 z9 hc9;obtain⟨v9,rfl,hg9,hb9⟩:=copy_graph h9 hc9;have HG9:=Hd hg9;have K9:=Hd (K8.out.below hb9);have hv9:=hg9;obtain⟨X1,y1,t1,X2,y2,t2,X3,y3,t3,rfl,_⟩:=hv9;clear hg9 hb9 hc9 h9;obtain ⟨g90,g91,g92,g93⟩:=K9.out.z4 2 rfl);go_wp2_with fail)
 refine zK hK ?_ ⟨g90,g91,g92,g93⟩;clear hK K hq_;intro hq_
 try simp only[pA]
 refine e1 25 fun K hK=>?_
 first|(refine effU ?_ ?_;(focus rfl))|(go_simp;(go_at_call 24;refine(ref10Same_eq HG9.out (HG.out.below K9.out.base)).mono ?_;rintro e10 z10 ⟨rfl,hb10⟩;have K10:=Hd (K9.out.below hb10);clear hb10;obtain ⟨g100,g101,g102,g103⟩:=K10.out.z4 2 rfl);go_wp2_with fail)
 refine zK hK ?_ ⟨g100,g101,g102,g103⟩;clear hK K hq_;intro hq_
 try simp only[pA]
 refine zW 26 hq_ ?_
 try simp only[pA]
 refine zW 27 hq_ ?_
 try simp only[pA]
 first|refine tU 28 hq_ ?_|refine zW 28 hq_ ?_
 try simp only[pA]
 first|refine tU 29 hq_ ?_|refine zW 29 hq_ ?_
 try simp only[pA]
 refine e1 30 fun K hK=>?_
 first|(refine effU ?_ ?_;(focus rfl))|(go_simp;(go_at_call 26;have CX:=gSame_any (HG.out.below K10.out.base) (HG.out.below K10.out.base);rw[sameG_yes rfl] at CX;refine CX.mono ?_;rintro e11 z11 ⟨rfl,hb11⟩;have HZ:=Hd (K10.out.below hb11);clear CX hb11;obtain ⟨g110,g111,g112,g113⟩:=HZ.out.z4 2 rfl);go_wp2_with fail)
 refine zK hK ?_ ⟨g110,g111,g112,g113⟩;clear hK K hq_;intro hq_
 try simp only[pA]
 refine zW 31 hq_ ?_
 try simp only[pA]
 refine zW 32 hq_ ?_
 try simp only[pA]
 refine wpAnyH_done (by kernel_rfl) ?_ _;go_wp2;go_ret;exact⟨by trivial,HZ.out.base⟩
end Go.Proofs.YtnnmplkgenhofaaGreat
