import Derived.Test.YtnnmplkgenhofaaGreatPbs
set_option maxRecDepth 100000
set_option maxHeartbeats 12800000
namespace Go.Proofs.YtnnmplkgenhofaaGreat
open Go.RowKit
theorem text_iff (a b:ByteArray):(a.toList==b.toList)=decide (a=b):=by
 by_cases h:a=b
 ·subst h;simp
 ·have h2:¬ a.toList=b.toList:=fun e=>h (by
   rw[ByteArray.toList_eq,ByteArray.toList_eq] at e
   exact ByteArray.ext (Array.ext' e))
  rw[decide_eq_false h];simpa using h2
theorem node_iff {a b:NodeV}:a=b↔a.op=b.op∧a.n=b.n∧a.how=b.how∧a.note=b.note∧a.ins=b.ins∧a.shape=b.shape∧a.a=b.a:=by
 cases a;cases b
 simp only[NodeV.mk.injEq]
 constructor
 ·rintro⟨h1,h2,h3,h4,h5,h6,h7⟩;exact⟨h1,h5,h6,h7,h2,h3,h4⟩
 ·rintro⟨h1,h5,h6,h7,h2,h3,h4⟩;exact⟨h1,h2,h3,h4,h5,h6,h7⟩
theorem graph_iff {a b:GraphV}:a=b↔a.sizes=b.sizes∧a.names=b.names∧a.nodes=b.nodes∧a.outs=b.outs:=by
 cases a;cases b
 simp only[GraphV.mk.injEq]
open Classical in
noncomputable def sameN (a b:NodeV):Bool:=decide (a=b)
theorem sameN_yes {a b:NodeV} (h:a=b):sameN a b=true:=by simpa [sameN] using h
theorem sameN_no {a b:NodeV} (h:¬ a=b):sameN a b=false:=by simpa [sameN] using h
open Classical in
noncomputable def sameNs (a b:List NodeV):Bool:=decide (a=b)
theorem sameNs_yes {a b:List NodeV} (h:a=b):sameNs a b=true:=by simpa [sameNs] using h
theorem sameNs_no {a b:List NodeV} (h:¬ a=b):sameNs a b=false:=by simpa [sameNs] using h
open Classical in
noncomputable def sameG (G1 G2:GraphV):Bool:=decide (G1=G2)
theorem sameG_yes {G1 G2:GraphV} (h:G1=G2):sameG G1 G2=true:=by simpa [sameG] using h
theorem sameG_no {G1 G2:GraphV} (h:¬ G1=G2):sameG G1 G2=false:=by simpa [sameG] using h
theorem gSameNode_any {w:World} {v u:Value} {d1 d2:NodeV} (h:NodeIs w v d1) (g:NodeIs w u d2) :
  Calls Tryz.prog 49 #[v,u] w fun e w' => e=.returned (.bool (sameN d1 d2))∧Below w.heap.size w w' := by
 obtain⟨A1,na1,ca1,B1,nb1,cb1,C1,nc1,cc1,rfl,hL1⟩:=h;obtain⟨A2,na2,ca2,B2,nb2,cb2,C2,nc2,cc2,rfl,hL2⟩:=g;have h1:=((Sep.nil w).allocBox w.heap.size 34 [.int .i64 d1.op,.slice A1 na1 ca1,.slice B1 nb1 cb1,.slice C1 nc1 cc1,.int .i64 d1.n,.int .i64 d1.how,.string d1.note] rfl).allocBox (w.heap.size+1) 34 [.int .i64 d2.op,.slice A2 na2 ca2,.slice B2 nb2 cb2,.slice C2 nc2 cc2,.int .i64 d2.n,.int .i64 d2.how,.string d2.note] (by simp);have HL1:=Hd hL1;have HL2:=Hd hL2;have HE:=Hd (node_iff (a:=d1) (b:=d2));have htx:=text_iff d1.note d2.note;clear hL1 hL2
 go_enter Tryz.func49,Tryz.ntmps49
 go_upto_region 1 with fail
 generalize (w.alloc (.cells #[.int .i64 d1.op,.slice A1 na1 ca1,.slice B1 nb1 cb1,.slice C1 nc1 cc1,.int .i64 d1.n,.int .i64 d1.how,.string d1.note] 34)).alloc (.cells #[.int .i64 d2.op,.slice A2 na2 ca2,.slice B2 nb2 cb2,.slice C2 nc2 cc2,.int .i64 d2.n,.int .i64 d2.how,.string d2.note] 34)=W at *;generalize hg1:w.heap.size=g1 at *;have HG1:=Hd hg1;have H:=Hd h1;clear h1 hg1;obtain ⟨n0,n1,n2,n3,n4,n5,n6⟩:=H.out.cells7 1 rfl;obtain ⟨m0,m1,m2,m3,m4,m5,m6⟩:=H.out.cells7 0 rfl;by_cases e0:d1.op=d2.op;rotate_left
 ·have b0:(d1.op==d2.op)=false:=by simpa using e0
  have HX:=Hd (sameN_no (fun hc=>e0 (HE.out.1 hc).1));clear e0 htx;go_wp2;go_ret;exact⟨ret_bool HX.out.symm,H.out.base⟩
 have b0:(d1.op==d2.op)=true:=by simpa using e0
 have E0:=Hd e0;clear e0;by_cases e1:d1.n=d2.n;rotate_left
 ·have b1:(d1.n==d2.n)=false:=by simpa using e1
  have HX:=Hd (sameN_no (fun hc=>e1 (HE.out.1 hc).2.1));clear e1 htx;go_wp2;go_ret;exact⟨ret_bool HX.out.symm,H.out.base⟩
 have b1:(d1.n==d2.n)=true:=by simpa using e1
 have E1:=Hd e1;clear e1;by_cases e2:d1.how=d2.how;rotate_left
 ·have b2:(d1.how==d2.how)=false:=by simpa using e2
  have HX:=Hd (sameN_no (fun hc=>e2 (HE.out.1 hc).2.2.1));clear e2 htx;go_wp2;go_ret;exact⟨ret_bool HX.out.symm,H.out.base⟩
 have b2:(d1.how==d2.how)=true:=by simpa using e2
 have E2:=Hd e2;clear e2;by_cases e3:d1.note=d2.note;rotate_left
 ·rw[decide_eq_false e3] at htx;have HX:=Hd (sameN_no (fun hc=>e3 (HE.out.1 hc).2.2.2.1));clear e3;go_wp2;go_ret;exact⟨ret_bool HX.out.symm,H.out.base⟩
 rw[decide_eq_true e3] at htx;have E3:=Hd e3;clear e3;have C9:=gEqual_any (c:=ca1) (d:=ca2) (HL1.out.inA.below H.out.base) (HL2.out.inA.below H.out.base)
 cases e4:(d1.ins==d2.ins) with
 | false =>
  rw[e4] at C9;have HX:=Hd (sameN_no (fun hc=>by have h9:=(HE.out.1 hc).2.2.2.2.1;rw[h9] at e4;simp at e4));clear e4
  go_wp2_with fail
  refine C9.mono ?_;rintro e9 w9 ⟨rfl,q9,rfl⟩;replace H:=Hd (H.out.drewN q9);clear C9;clear n0 m0 n1 m1 n2 m2 n3 m3 n4 m4 n5 m5 n6 m6;go_wp2;go_ret
  exact⟨ret_bool HX.out.symm,H.out.base⟩
 | true =>
  rw[e4] at C9;have E4:=Hd (eq_of_beq e4);clear e4
  go_wp2_with fail
  refine C9.mono ?_;rintro e9 w9 ⟨rfl,q9,rfl⟩;replace H:=Hd (H.out.drewN q9);clear C9;clear n0 m0 n1 m1 n2 m2 n3 m3 n4 m4 n5 m5 n6 m6;obtain⟨v4,hv4⟩:∃ v,World.drewN W q9=v:=⟨_,rfl⟩;rw[hv4] at H ⊢;clear hv4;obtain ⟨n0,n1,n2,n3,n4,n5,n6⟩:=H.out.cells7 1 rfl;obtain ⟨m0,m1,m2,m3,m4,m5,m6⟩:=H.out.cells7 0 rfl;have C10:=gEqual_any (c:=cb1) (d:=cb2) (HL1.out.inB.below H.out.base) (HL2.out.inB.below H.out.base)
  cases e5:(d1.shape==d2.shape) with
  | false =>
   rw[e5] at C10;have HX:=Hd (sameN_no (fun hc=>by have h9:=(HE.out.1 hc).2.2.2.2.2.1;rw[h9] at e5;simp at e5));clear e5
   go_wp2_with fail
   refine C10.mono ?_;rintro e9 w9 ⟨rfl,q9,rfl⟩;replace H:=Hd (H.out.drewN q9);clear C10;clear n0 m0 n1 m1 n2 m2 n3 m3 n4 m4 n5 m5 n6 m6;go_wp2;go_ret
   exact⟨ret_bool HX.out.symm,H.out.base⟩
  | true =>
   rw[e5] at C10;have E5:=Hd (eq_of_beq e5);clear e5
   go_wp2_with fail
   refine C10.mono ?_;rintro e9 w9 ⟨rfl,q9,rfl⟩;replace H:=Hd (H.out.drewN q9);clear C10;clear n0 m0 n1 m1 n2 m2 n3 m3 n4 m4 n5 m5 n6 m6;obtain⟨v5,hv5⟩:∃ v,World.drewN v4 q9=v:=⟨_,rfl⟩;rw[hv5] at H ⊢;clear hv5;obtain ⟨n0,n1,n2,n3,n4,n5,n6⟩:=H.out.cells7 1 rfl;obtain ⟨m0,m1,m2,m3,m4,m5,m6⟩:=H.out.cells7 0 rfl;have C11:=gEqual_any (c:=cc1) (d:=cc2) (HL1.out.inC.below H.out.base) (HL2.out.inC.below H.out.base)
   cases e6:(d1.a==d2.a) with
   | false =>
    rw[e6] at C11;have HX:=Hd (sameN_no (fun hc=>by have h9:=(HE.out.1 hc).2.2.2.2.2.2;rw[h9] at e6;simp at e6));clear e6
    go_wp2_with fail
    refine C11.mono ?_;rintro e9 w9 ⟨rfl,q9,rfl⟩;replace H:=Hd (H.out.drewN q9);clear C11;clear n0 m0 n1 m1 n2 m2 n3 m3 n4 m4 n5 m5 n6 m6;go_wp2;go_ret
    exact⟨ret_bool HX.out.symm,H.out.base⟩
   | true =>
    rw[e6] at C11;have E6:=Hd (eq_of_beq e6);clear e6
    go_wp2_with fail
    refine C11.mono ?_;rintro e9 w9 ⟨rfl,q9,rfl⟩;replace H:=Hd (H.out.drewN q9);clear C11;clear n0 m0 n1 m1 n2 m2 n3 m3 n4 m4 n5 m5 n6 m6;obtain⟨v6,hv6⟩:∃ v,World.drewN v5 q9=v:=⟨_,rfl⟩;rw[hv6] at H ⊢;clear hv6;obtain ⟨n0,n1,n2,n3,n4,n5,n6⟩:=H.out.cells7 1 rfl;obtain ⟨m0,m1,m2,m3,m4,m5,m6⟩:=H.out.cells7 0 rfl;have HX:=Hd (sameN_yes (HE.out.2 ⟨E0.out,E1.out,E2.out,E3.out,E4.out,E5.out,E6.out⟩));go_wp2;go_ret;exact⟨ret_bool HX.out.symm,H.out.base⟩
theorem gEqualNodes_any {w:World} {A1 A2:Option Addr} {n1 c1 n2 c2:Nat} {N1 N2:List NodeV} (h:Nods w A1 n1 N1) (g:Nods w A2 n2 N2) :
  Calls Tryz.prog 48 #[.slice A1 n1 c1,.slice A2 n2 c2,.func (.func 49) #[] #[]] w fun e w' => e=.returned (.bool (sameNs N1 N2))∧Below w.heap.size w w' := by
 have hl1:=h.2.1;have hl2:=g.2.1;have HL1:=Hd h.1;have HL2:=Hd g.1;have HB1:=Hd h;have HB2:=Hd g;clear h g;by_cases hn:n1=n2
 ·subst hn;have hne:((n1:Int) != (n1:Int))=false:=by simp
  have h1:=Sep.nil w
  go_enter Tryz.func48,Tryz.ntmps48
  go_wp2_with fail
  go_loopw [17] (fun iv wr=>∃ j:Nat,iv=.int .i64 j∧j≤n1∧N1.take j=N2.take j∧Sep w wr []) (fun iv _=>n1-(intOf iv).toNat)
  case atStart=>exact⟨0,rfl,by omega,by simp,h1⟩
  case round =>
   clear h1;obtain⟨j,rfl,hj,hT,hS⟩:=hrel;have H:=Hd hS;have HT:=Hd hT;clear hS hT;by_cases hlt:j<n1
   ·obtain⟨d1,hd1⟩:∃ nd,N1[j]? = some nd:=⟨_,List.getElem?_eq_getElem (by have:=HL1.out;omega)⟩;obtain⟨d2,hd2⟩:∃ nd,N2[j]? = some nd:=⟨_,List.getElem?_eq_getElem (by have:=HL2.out;omega)⟩;obtain⟨l1,P1,p1,q1,Q1,r1,s1,R1,t1,u1,hla1,hb1,k10,k11,k12,k13,k14,k15,k16,hN1⟩:=HB1.out.2.2 j d1 hd1;subst hla1;obtain⟨l2,P2,p2,q2,Q2,r2,s2,R2,t2,u2,hla2,hb2,k20,k21,k22,k23,k24,k25,k26,hN2⟩:=HB2.out.2.2 j d2 hd2;subst hla2;obtain⟨c0,c1,c2,c3,c4,c5,c6⟩:=old7 H.out hb1 k10 k11 k12 k13 k14 k15 k16;have h3:=H.out.allocBox wr.heap.size 34 [.int .i64 d1.op,.slice P1 p1 q1,.slice Q1 r1 s1,.slice R1 t1 u1,.int .i64 d1.n,.int .i64 d1.how,.string d1.note] rfl
    go_upto_region 6 with fail
    generalize wr.alloc (.cells #[.int .i64 d1.op,.slice P1 p1 q1,.slice Q1 r1 s1,.slice R1 t1 u1,.int .i64 d1.n,.int .i64 d1.how,.string d1.note] 34)=w3 at *;generalize wr.heap.size=gn at *;replace H:=Hd h3;clear h3 c0 c1 c2 c3 c4 c5 c6;obtain⟨c0,c1,c2,c3,c4,c5,c6⟩:=old7 H.out hb2 k20 k21 k22 k23 k24 k25 k26;have h3:=H.out.allocBox w3.heap.size 34 [.int .i64 d2.op,.slice P2 p2 q2,.slice Q2 r2 s2,.slice R2 t2 u2,.int .i64 d2.n,.int .i64 d2.how,.string d2.note] rfl
    go_upto_region 7 with fail
    generalize w3.alloc (.cells #[.int .i64 d2.op,.slice P2 p2 q2,.slice Q2 r2 s2,.slice R2 t2 u2,.int .i64 d2.n,.int .i64 d2.how,.string d2.note] 34)=w4 at *;generalize w3.heap.size=gm at *;replace H:=Hd h3;clear h3 c0 c1 c2 c3 c4 c5 c6;obtain ⟨n0,n1,n2,n3,n4,n5,n6⟩:=H.out.cells7 1 rfl;obtain ⟨m0,m1,m2,m3,m4,m5,m6⟩:=H.out.cells7 0 rfl;have CS:=gSameNode_any (show NodeIs w4 (.agg #[.int .i64 d1.op,.slice P1 p1 q1,.slice Q1 r1 s1,.slice R1 t1 u1,.int .i64 d1.n,.int .i64 d1.how,.string d1.note]) d1 from⟨P1,p1,q1,Q1,r1,s1,R1,t1,u1,rfl,hN1.below H.out.base⟩) (show NodeIs w4 (.agg #[.int .i64 d2.op,.slice P2 p2 q2,.slice Q2 r2 s2,.slice R2 t2 u2,.int .i64 d2.n,.int .i64 d2.how,.string d2.note]) d2 from⟨P2,p2,q2,Q2,r2,s2,R2,t2,u2,rfl,hN2.below H.out.base⟩);have HD1:=Hd hd1;have HD2:=Hd hd2;clear k10 k11 k12 k13 k14 k15 k16 k20 k21 k22 k23 k24 k25 k26 hN1 hN2 hd1 hd2;by_cases he:d1=d2
    ·rw[sameN_yes he] at CS;have HE:=Hd he;clear he
     go_wp2_with fail
     refine CS.mono ?_;rintro e7 w7 ⟨rfl,hb7⟩;replace H:=Hd (H.out.below hb7);clear CS hb7 n0 m0 n1 m1 n2 m2 n3 m3 n4 m4 n5 m5 n6 m6;go_wp2;go_roundw
     case rel=>exact⟨j+1,by go_num,by omega,by rw[List.take_add_one,List.take_add_one,HT.out,HD1.out,HD2.out,HE.out],H.out.sub [] rfl (by decide)⟩
     case measure=>simp[intOf];omega
    ·rw[sameN_no he] at CS;have HX:=Hd (sameNs_no (a:=N1) (b:=N2) (fun hc=>he (by have h8:=HD1.out;rw[hc,HD2.out] at h8;injection h8 with h8;exact h8.symm)));clear he
     go_wp2_with fail
     refine CS.mono ?_;rintro e7 w7 ⟨rfl,hb7⟩;replace H:=Hd (H.out.below hb7);clear CS hb7 n0 m0 n1 m1 n2 m2 n3 m3 n4 m4 n5 m5 n6 m6;go_wp2;go_ret;exact⟨ret_bool HX.out.symm,H.out.base⟩
   ·obtain rfl:j=n1:=by omega
    have HX:=Hd (sameNs_yes (show N1=N2 by have h9:=HT.out;rwa [List.take_of_length_le (by have:=HL1.out;omega),List.take_of_length_le (by have:=HL2.out;omega)] at h9));go_wp2;go_ret;exact⟨ret_bool HX.out.symm,H.out.base⟩
 ·have hne:((n1:Int) != (n2:Int))=true:=by simp;omega
  have HX:=Hd (sameNs_no (a:=N1) (b:=N2) (fun hc=>hn (by have:=HL1.out;have:=HL2.out;rw[hc] at *;omega)));clear hn
  go_enter Tryz.func48,Tryz.ntmps48
  go_wp2;go_ret;exact⟨ret_bool HX.out.symm,Below.refl _ _⟩
theorem gSame_any {w:World} {v u:Value} {G1 G2:GraphV} (h:GraphIs w v G1) (g:GraphIs w u G2) :
  Calls Tryz.prog 26 #[v,u] w fun e w' => e=.returned (.bool (sameG G1 G2))∧Below w.heap.size w w' := by
 obtain⟨A1,na1,ca1,B1,nb1,cb1,C1,nc1,cc1,rfl,hL1⟩:=h;obtain⟨A2,na2,ca2,B2,nb2,cb2,C2,nc2,cc2,rfl,hL2⟩:=g;have h1:=((Sep.nil w).allocBox w.heap.size 25 [.slice A1 na1 ca1,.string G1.names,.slice B1 nb1 cb1,.slice C1 nc1 cc1] rfl).allocBox (w.heap.size+1) 25 [.slice A2 na2 ca2,.string G2.names,.slice B2 nb2 cb2,.slice C2 nc2 cc2] (by simp);have HL1:=Hd hL1;have HL2:=Hd hL2;have HE:=Hd (graph_iff (a:=G1) (b:=G2));have htx:=text_iff G1.names G2.names;clear hL1 hL2
 go_enter Tryz.func26,Tryz.ntmps26
 go_upto_region 1 with fail
 generalize (w.alloc (.cells #[.slice A1 na1 ca1,.string G1.names,.slice B1 nb1 cb1,.slice C1 nc1 cc1] 25)).alloc (.cells #[.slice A2 na2 ca2,.string G2.names,.slice B2 nb2 cb2,.slice C2 nc2 cc2] 25)=W at *;generalize hg1:w.heap.size=g1 at *;have HG1:=Hd hg1;have H:=Hd h1;clear h1 hg1;obtain ⟨n0,n1,n2,n3⟩:=H.out.z4 1 rfl;obtain ⟨m0,m1,m2,m3⟩:=H.out.z4 0 rfl;have CC:=gEqual_any (c:=ca1) (d:=ca2) (HL1.out.inA.below H.out.base) (HL2.out.inA.below H.out.base)
 cases e0:(G1.sizes==G2.sizes) with
 | false =>
  rw[e0] at CC;have HX:=Hd (sameG_no (fun hc=>by have h9:=(HE.out.1 hc).1;rw[h9] at e0;simp at e0));clear e0
  go_wp2_with fail
  refine CC.mono ?_;rintro e9 w9 ⟨rfl,q9,rfl⟩;replace H:=Hd (H.out.drewN q9);clear CC;clear n0 m0 n1 m1 n2 m2 n3 m3;go_wp2;go_ret
  exact⟨ret_bool HX.out.symm,H.out.base⟩
 | true =>
  rw[e0] at CC;have E0:=Hd (eq_of_beq e0);clear e0
  go_wp2_with fail
  refine CC.mono ?_;rintro e9 w9 ⟨rfl,q9,rfl⟩;replace H:=Hd (H.out.drewN q9);clear CC;clear n0 m0 n1 m1 n2 m2 n3 m3;generalize World.drewN _ q9=v0 at *;obtain ⟨n0,n1,n2,n3⟩:=H.out.z4 1 rfl;obtain ⟨m0,m1,m2,m3⟩:=H.out.z4 0 rfl;by_cases e1:G1.names=G2.names;rotate_left
  ·rw[decide_eq_false e1] at htx;have HX:=Hd (sameG_no (fun hc=>e1 (HE.out.1 hc).2.1));clear e1;go_wp2;go_ret;exact⟨ret_bool HX.out.symm,H.out.base⟩
  rw[decide_eq_true e1] at htx;have E1:=Hd e1;clear e1;have CC:=gEqualNodes_any (c1:=cb1) (c2:=cb2) (HL1.out.inB.below H.out.base) (HL2.out.inB.below H.out.base);by_cases e2:G1.nodes=G2.nodes;rotate_left
  ·rw[sameNs_no e2] at CC;have HX:=Hd (sameG_no (fun hc=>e2 (HE.out.1 hc).2.2.1));clear e2
   go_wp2_with fail
   refine CC.mono ?_;rintro e9 w9 ⟨rfl,hb9⟩;replace H:=Hd (H.out.below hb9);clear hb9;clear CC;clear n0 m0 n1 m1 n2 m2 n3 m3;go_wp2;go_ret;exact⟨ret_bool HX.out.symm,H.out.base⟩
  rw[sameNs_yes e2] at CC;have E2:=Hd e2;clear e2
  go_wp2_with fail
  refine CC.mono ?_;rintro e9 w9 ⟨rfl,hb9⟩;replace H:=Hd (H.out.below hb9);clear hb9;clear CC;clear n0 m0 n1 m1 n2 m2 n3 m3;obtain ⟨n0,n1,n2,n3⟩:=H.out.z4 1 rfl;obtain ⟨m0,m1,m2,m3⟩:=H.out.z4 0 rfl;have CC:=gEqual_any (c:=cc1) (d:=cc2) (HL1.out.inC.below H.out.base) (HL2.out.inC.below H.out.base)
  cases e3:(G1.outs==G2.outs) with
  | false =>
   rw[e3] at CC;have HX:=Hd (sameG_no (fun hc=>by have h9:=(HE.out.1 hc).2.2.2;rw[h9] at e3;simp at e3));clear e3
   go_wp2_with fail
   refine CC.mono ?_;rintro e9 w9 ⟨rfl,q9,rfl⟩;replace H:=Hd (H.out.drewN q9);clear CC;clear n0 m0 n1 m1 n2 m2 n3 m3;go_wp2;go_ret
   exact⟨ret_bool HX.out.symm,H.out.base⟩
  | true =>
   rw[e3] at CC;have E3:=Hd (eq_of_beq e3);clear e3
   go_wp2_with fail
   refine CC.mono ?_;rintro e9 w9 ⟨rfl,q9,rfl⟩;replace H:=Hd (H.out.drewN q9);clear CC;clear n0 m0 n1 m1 n2 m2 n3 m3;generalize World.drewN _ q9=v3 at *;obtain ⟨n0,n1,n2,n3⟩:=H.out.z4 1 rfl;obtain ⟨m0,m1,m2,m3⟩:=H.out.z4 0 rfl;have HX:=Hd (sameG_yes (HE.out.2 ⟨E0.out,E1.out,E2.out,E3.out⟩));go_wp2;go_ret;exact⟨ret_bool HX.out.symm,H.out.base⟩
end Go.Proofs.YtnnmplkgenhofaaGreat
