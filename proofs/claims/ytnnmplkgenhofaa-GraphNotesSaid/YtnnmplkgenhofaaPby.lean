import Derived.Test.YtnnmplkgenhofaaPbw
import Derived.Test.YtnnmplkgenhofaaPbx
namespace Go.Proofs.Ytnnmplkgenhofaa
open Go.RowKit
theorem shapes_slim (xs:List Int):∀ s∈(kBody xs).shapes,s.length≤4:=(slim_go _ _ ⟨by simp,by simp⟩:SlimK (kBody xs)).shapes
theorem NodK.setNote {w:World} {us:List Value} {N:List NodeV} (h:NodK w us N) {k:Nat} {nd:NodeV} (hk:N[k]? = some nd) {t:ByteArray} (ht:t.size≤17592186044000):NodK w (us.set (k*7+6) (.string t)) (N.set k (noted nd t)):=by
 refine ⟨by simp [h.1],fun j x hj => ?_⟩;have hkl:=(List.getElem?_eq_some_iff.1 hk).1;by_cases e:j=k
 ·subst e;rw [List.getElem?_set_self hkl] at hj;injection hj with hj;subst hj
  obtain ⟨A,na,ca,B,nb,cb,C,nc,cc,h1,h2⟩:=h.2 j nd hk;refine ⟨A,na,ca,B,nb,cb,C,nc,cc,fun i hi => ?_,⟨h2.ia,h2.ib,h2.ic,h2.inA,h2.inB,h2.inC,h2.op,h2.n,h2.how,ht⟩⟩;rcases (show i=0∨i=1∨i=2∨i=3∨i=4∨i=5∨i=6 by omega) with rfl | rfl | rfl | rfl | rfl | rfl | rfl
  ·rw [List.getElem?_set_ne (by omega)];exact h1 0 (by omega)
  ·rw [List.getElem?_set_ne (by omega)];exact h1 1 (by omega)
  ·rw [List.getElem?_set_ne (by omega)];exact h1 2 (by omega)
  ·rw [List.getElem?_set_ne (by omega)];exact h1 3 (by omega)
  ·rw [List.getElem?_set_ne (by omega)];exact h1 4 (by omega)
  ·rw [List.getElem?_set_ne (by omega)];exact h1 5 (by omega)
  ·rw [List.getElem?_set_self (by have:=h.1;omega)];rfl
 ·rw [List.getElem?_set_ne (fun q=>e q.symm)] at hj;obtain ⟨A,na,ca,B,nb,cb,C,nc,cc,h1,h2⟩:=h.2 j x hj;exact ⟨A,na,ca,B,nb,cb,C,nc,cc,fun i hi=>by rw [List.getElem?_set_ne (by omega)];exact h1 i hi,h2⟩
theorem small_of {q:Nat} {N:List NodeV} {s:List Int} {nm:ByteArray} {o:List Int} (h:∀ nd∈N,nd.ins.length≤q):SmallG q ⟨s,nm,N,o⟩:=fun _ nd hj=>h nd (List.mem_of_getElem? hj)
theorem pieces (r:Nat) (h:r<3):∃ p:List Int,(p=[46]∨p=[32,46]∨p=[46,32])∧([.string ⟨#[46]⟩,.string ⟨#[32,46]⟩,.string ⟨#[46,32]⟩]:List Value)[r]? = some (.string (runesBytes p))∧(runesBytes p).size≤2:=by
 rcases (show r=0∨r=1∨r=2 by omega) with rfl | rfl | rfl
 ·exact ⟨[46],.inl rfl,by kernel_rfl,by decide⟩
 ·exact ⟨[32,46],.inr (.inl rfl),by kernel_rfl,by decide⟩
 ·exact ⟨[46,32],.inr (.inr rfl),by kernel_rfl,by decide⟩
def NotedTo (L:List (List Int)) (N N' : List NodeV):Prop:=∀ (j:Nat) (nd:NodeV) (s:List Int),j<N'.length→N[j]? = some nd→L[j]? = some s→∃ l,Dots s.length l∧N'[j]? = some (noted nd (runesBytes l))
theorem NotedTo.snoc {L:List (List Int)} {N N' : List NodeV} (h:NotedTo L N N') {nd:NodeV} {s l:List Int} (hn:N[N'.length]? = some nd) (hs:L[N'.length]? = some s) (hd:Dots s.length l):NotedTo L N (N' ++ [noted nd (runesBytes l)]):=fun j x t hj hx ht=>by
 rcases Nat.lt_or_ge j N'.length with q | q
 ·obtain ⟨l1,h1,h2⟩:=h j x t q hx ht;exact ⟨l1,h1,by rw [List.getElem?_append_left q];exact h2⟩
 ·rw [List.length_append,List.length_singleton] at hj;obtain rfl:j=N'.length:=by omega
  rw [hn] at hx;injection hx with hx;subst hx
  rw [hs] at ht;injection ht with ht;subst ht
  exact ⟨l,hd,by rw [List.getElem?_append_right (Nat.le_refl _),Nat.sub_self];rfl⟩
theorem NotedTo.all {L:List (List Int)} {N N' : List NodeV} (h:NotedTo L N N') (hl:N'.length=N.length):Renoted L 0 N N' := ⟨hl,fun j nd s hn hs=>h j nd s (by have:=(List.getElem?_eq_some_iff.1 hn).1;omega) hn (by rw [Nat.zero_add] at hs;exact hs)⟩
theorem NotedTo.ins {L:List (List Int)} {N N' : List NodeV} (h:NotedTo L N N') (hl:N'.length≤N.length) (hL:L.length=N.length) {q:Nat} (hq:∀ (j:Nat) (nd:NodeV),N[j]? = some nd→nd.ins.length≤q):∀ nd∈N', nd.ins.length≤q:=fun x hx=>by
 obtain ⟨j,hj,e⟩:=List.getElem_of_mem hx;obtain ⟨nd,hnd⟩:∃ nd,N[j]? = some nd:=⟨_,List.getElem?_eq_getElem (by omega)⟩;obtain ⟨s,hs⟩:∃ s,L[j]? = some s:=⟨_,List.getElem?_eq_getElem (by omega)⟩;obtain ⟨l,_,h2⟩:=h j nd s hj hnd hs;rw [List.getElem?_eq_getElem hj,e] at h2;injection h2 with h2
 subst h2;exact hq j nd hnd
set_option maxRecDepth 100000 in
set_option maxHeartbeats 6400000 in
theorem notes10_walk {w:World} {A0:Option Addr} {n0 c0:Nat} {xs:List Int} {A1:Option Addr} {n1 c1:Nat} {ys:List Int} (hI:Ints w A0 n0 xs) (hJ:Ints w A1 n1 ys) :
  Calls Try.prog 5 #[.slice A0 n0 c0,.slice A1 n1 c1] w fun e w' => e=.returned (.bool true)∧Below w.heap.size w w' := by
 have C1:=graph_k (c:=c0) hI;have hS1:=shapesR_graph xs;have hSN:=fun (N:List NodeV) (h:Renoted (kBody xs).shapes 0 (kGraph xs).nodes N)=>shapes_renoted h
 have hSO:=fun (nd:NodeV) (N1:List NodeV) (l s:List Int) (h:Renoted (kBody xs).shapes 0 (kGraph xs).nodes (nd::N1)) (nd0:NodeV) (h0:(kGraph xs).nodes[0]? = some nd0) (hs:(kBody xs).shapes[0]? = some s) (hd:Dots s.length l) (hn:nd=noted nd0 (runesBytes l))=>shapes_over h h0 hs hd hn
 have hF1:=few_graph xs;have hSl:=shapes_slim xs;obtain ⟨G,hGd⟩:∃ G,kGraph xs=G:=⟨_,rfl⟩;obtain ⟨L,hLd⟩:∃ L,(kBody xs).shapes=L:=⟨_,rfl⟩;rw [hGd] at C1 hS1 hSN hSO hF1;rw [hLd] at hS1 hSN hSO hSl;clear hGd hLd hI;obtain ⟨hS1,hLl⟩:=hS1
 go_enter Try.func5,Try.ntmps5
 go_wp2_with fail
 refine C1.mono ?_;rintro e1 w1 ⟨⟨v,rfl,hG⟩,hb0⟩;have HG:=Hd hG;have HB0:=Hd hb0;have HJ1:=Hd (hJ.below hb0);obtain ⟨A,na,ca,B,nb,cb,C,nc,cc,rfl,hL⟩:=hG;have hnb:=hL.inB.1;have hLl2:L.length=nb:=by omega
 have hnb9:nb≤20:=by have:=hF1.nodes;omega
 have hyl:=hJ.len;have HNB:=Hd hnb;have HL:=Hd hL;have HLL:=Hd hLl2;have HLN:=Hd hLl;have HS1:=Hd hS1;have HSN:=Hd hSN;have HSO:=Hd hSO;have HF1:=Hd hF1;have HSL:=Hd hSl;have HYL:=Hd hyl;clear C1 hb0 hnb hL hLl2 hS1 hSN hSO hF1 hSl hLl hJ hyl;have h1:=(Sep.nil w1).allocBox w1.heap.size 25 [.slice A na ca,.string G.names,.slice B nb cb,.slice C nc cc] rfl
 go_upto_region 2 with fail
 generalize w1.alloc (.cells #[.slice A na ca,.string G.names,.slice B nb cb,.slice C nc cc] 25)=w2 at *;have H:=Hd h1;clear h1;obtain ⟨g0,g1,g2,g3⟩:=H.out.cells4 0 rfl;have CC:=gShapes_any (HG.out.below H.out.base) (fun j nd hj=>Nat.le_trans (HF1.out.small j nd hj) (by omega));rw [HS1.out] at CC
 go_wp2_with fail
 refine CC.mono ?_;rintro e2 w3 ⟨⟨A2,m2,c2,rfl,hc2,hL2⟩,hb2⟩;obtain rfl:m2=nb:=by have:=hL2.1;have:=HLL.out;omega
 replace H:=Hd (H.out.below hb2);have HL2:=Hd hL2;clear CC hb2 hL2 g0 g1 g2 g3;have HB1:=Hd H.out.base;have hgb:w1.heap.size<w3.heap.size:=(H.out.blockLt 0 rfl).2;have HQ0:Hid (w3.cell? ⟨w1.heap.size,0,none⟩=some (.slice A na ca)):=Hd (H.out.cell 0 0 rfl rfl);have HQ1:Hid (w3.cell? ⟨w1.heap.size,1,none⟩=some (.string G.names)):=Hd (H.out.cell 0 1 rfl rfl);have HQ2:Hid (w3.cell? ⟨w1.heap.size,2,none⟩=some (.slice B m2 cb)):=Hd (H.out.cell 0 2 rfl rfl);have HQ3:Hid (w3.cell? ⟨w1.heap.size,3,none⟩=some (.slice C nc cc)):=Hd (H.out.cell 0 3 rfl rfl);have HL3:=Hd (HL.out.below HB1.out);have HJ3:=Hd (HJ1.out.below HB1.out);obtain ⟨gb,hgbe⟩:∃ gb,w1.heap.size=gb:=⟨_,rfl⟩;rw [hgbe] at hgb HQ0 HQ1 HQ2 HQ3 ⊢;have HGB:=Hd hgb;clear hgb hgbe H;have g0:=HQ0.out;have g1:=HQ1.out;have g2:=HQ2.out;have g3:=HQ3.out;have dn:((m2:Int) != (m2:Int))=false:=by simp
 have h4:=(Sep.nil w3).allocBox w3.heap.size 41 [.slice A1 n1 c1,.int .i64 0] rfl
 go_upto_region 6 with fail
 generalize w3.alloc (.cells #[.slice A1 n1 c1,.int .i64 0] 41)=w4 at *;have H:=Hd h4;clear h4 g0 g1 g2 g3;have g0:=H.out.oldCell HGB.out HQ0.out;have g1:=H.out.oldCell HGB.out HQ1.out;have g2:=H.out.oldCell HGB.out HQ2.out;have g3:=H.out.oldCell HGB.out HQ3.out;have h5:=H.out.allocBox w4.heap.size 25 [.slice A na ca,.string G.names,.slice B m2 cb,.slice C nc cc] rfl
 go_upto_region 7 with fail
 generalize w4.alloc (.cells #[.slice A na ca,.string G.names,.slice B m2 cb,.slice C nc cc] 25)=w5 at *;generalize w4.heap.size=gw at *;replace H:=Hd h5;clear h5 g0 g1 g2 g3;obtain ⟨k0,k1,k2,k3⟩:=H.out.cells4 0 rfl;have fk0:=H.out.frozenBox 0 0 rfl;have fk1:=H.out.frozenBox 0 1 rfl;have fk2:=H.out.frozenBox 0 2 rfl;have fk3:=H.out.frozenBox 0 3 rfl;have h6:=(H.out.setBox 0 2 (.slice none 0 0) rfl).addRowNil 32 7
 go_upto_region 8 with fail
 generalize w5.setCell ⟨gw,2,none⟩ (.slice none 0 0)=w6 at *;replace H:=Hd (show Sep w3 w6 [.row 32 7 (.slice none 0 0) 0 [],.box gw 25 [.slice A na ca,.string G.names,.slice none 0 0,.slice C nc cc],TB w3.heap.size A1 n1 c1 0] from h6);clear h6 k0 k1 k2 k3 fk0 fk1 fk2 fk3;have g0:=H.out.oldCell HGB.out HQ0.out;have g1:=H.out.oldCell HGB.out HQ1.out;have g2:=H.out.oldCell HGB.out HQ2.out;have g3:=H.out.oldCell HGB.out HQ3.out
 go_wp2_with fail
 clear g0 g1 g2 g3
 go_loopw [39] (fun iv wr=>∃ (i a:Nat) (N' : List NodeV) (us:List Value) (vN:Value),iv=.int .i64 i∧i≤m2∧a≤n1∧N'.length=i∧NodK w3 us N' ∧ NotedTo L G.nodes N' ∧ Sep w3 wr [.row 32 7 vN i us,.box gw 25 [.slice A na ca,.string G.names,vN,.slice C nc cc],TB w3.heap.size A1 n1 c1 (a)]) (fun iv _=>m2-(intOf iv).toNat)
 case atStart=>exact ⟨0,0,[],[],_,rfl,Nat.zero_le _,Nat.zero_le _,rfl,nodK_nil _,fun j nd s hj=>absurd hj (by simp),H.out⟩
 case round =>
  clear H;obtain ⟨i,a,N', us,vN,rfl,him,han,hNl,hK,hNT,hS⟩:=hrel;have H:=Hd hS;have HK:=Hd hK;have HNT:=Hd hNT;have HNL:=Hd hNl;clear hS hK hNT hNl;by_cases hlt:i<m2
  ·obtain ⟨nd,hnd⟩:∃ nd,G.nodes[i]? = some nd:=⟨_,List.getElem?_eq_getElem (by have:=HNB.out;omega)⟩;obtain ⟨s,hs⟩:∃ s,L[i]? = some s:=⟨_,List.getElem?_eq_getElem (by have:=HLL.out;omega)⟩;have hs4:s.length≤4:=HSL.out s (List.mem_of_getElem? hs);obtain ⟨b,P1,p1,q1,P2,p2,q2,P3,p3,q3,hBb,hbb,yy0,yy1,yy2,yy3,yy4,yy5,yy6,hNL⟩:=HL3.out.inB.2.2 i nd hnd;obtain ⟨d,S,sn,sc,hA2d,hdb,zz0,_,hIs⟩:=HL2.out.2.2 i s hs;have hsn:sn=s.length:=hIs.len.symm;subst hsn;subst hBb;subst hA2d;have y0:=H.out.oldCell (by simp only [block_of_add];exact hbb) yy0;have y1:=H.out.oldCell (by simp only [block_of_add];exact hbb) yy1;have y2:=H.out.oldCell (by simp only [block_of_add];exact hbb) yy2;have y3:=H.out.oldCell (by simp only [block_of_add];exact hbb) yy3;have y4:=H.out.oldCell (by simp only [block_of_add];exact hbb) yy4;have y5:=H.out.oldCell (by simp only [block_of_add];exact hbb) yy5;have y6:=H.out.oldCell (by simp only [block_of_add];exact hbb) yy6;have HND:=Hd hnd;have HSI:=Hd hs;have HNLo:=Hd hNL;have HZZ:=Hd zz0;have HDB:=Hd hdb;clear hnd hs hNL yy0 yy1 yy2 yy3 yy4 yy5 yy6 hIs hdb hbb zz0;have h7:=H.out.allocBox wr.heap.size 32 [.int .i64 nd.op,.slice P1 p1 q1,.slice P2 p2 q2,.slice P3 p3 q3,.int .i64 nd.n,.int .i64 nd.how,.string nd.note] rfl
   go_upto_region 11 with fail
   generalize wr.alloc (.cells #[.int .i64 nd.op,.slice P1 p1 q1,.slice P2 p2 q2,.slice P3 p3 q3,.int .i64 nd.n,.int .i64 nd.how,.string nd.note] 32)=wa at *;generalize wr.heap.size=gx at *;replace H:=Hd h7;clear h7 y0 y1 y2 y3 y4 y5 y6;obtain ⟨x0,x1,x2,x3,x4,x5,x6⟩:=H.out.cells7 0 rfl;have fx0:=H.out.frozenBox 0 0 rfl;have fx1:=H.out.frozenBox 0 1 rfl;have fx2:=H.out.frozenBox 0 2 rfl;have fx3:=H.out.frozenBox 0 3 rfl;have fx4:=H.out.frozenBox 0 4 rfl;have fx5:=H.out.frozenBox 0 5 rfl;have fx6:=H.out.frozenBox 0 6 rfl;have h8:=H.out.setBox 0 6 (.string ⟨#[]⟩) rfl
   go_upto_region 12 with fail
   generalize wa.setCell ⟨gx,6,none⟩ (.string ⟨#[]⟩)=wb at *;replace H:=Hd (show Sep w3 wb [.box gx 32 [.int .i64 nd.op,.slice P1 p1 q1,.slice P2 p2 q2,.slice P3 p3 q3,.int .i64 nd.n,.int .i64 nd.how,.string ⟨#[]⟩],.row 32 7 vN i us,.box gw 25 [.slice A na ca,.string G.names,vN,.slice C nc cc],TB w3.heap.size A1 n1 c1 (a)] from h8);clear h8 x0 x1 x2 x3 x4 x5 x6 fx0 fx1 fx2 fx3 fx4 fx5 fx6;have z0:=H.out.oldCell (by simp only [block_of_add];exact HDB.out) HZZ.out
   go_wp2_with fail
   clear z0
   go_loopw [50] (fun kv wr=>∃ (k a2:Nat) (l:List Int),kv=.int .i64 k∧k≤s.length∧a2≤n1∧Dots k l∧Sep w3 wr [.box gx 32 [.int .i64 nd.op,.slice P1 p1 q1,.slice P2 p2 q2,.slice P3 p3 q3,.int .i64 nd.n,.int .i64 nd.how,.string (runesBytes l)],.row 32 7 vN i us,.box gw 25 [.slice A na ca,.string G.names,vN,.slice C nc cc],TB w3.heap.size A1 n1 c1 (a2)]) (fun kv _=>s.length-(intOf kv).toNat)
   case atStart=>exact ⟨0,a,[],rfl,Nat.zero_le _,han,dots_nil,H.out⟩
   case round =>
    clear H;obtain ⟨k,a2,l,rfl,hks,han2,hD,hS⟩:=hrel;have H:=Hd hS;have HDT:=Hd hD;clear hS hD;by_cases hlk:k<s.length
    ·have b0:=tv_nonneg ys a2 3;have b1:=tv_lt ys a2 (show (0:Int)<3 by omega);have bb:=ta_le 3 HYL.out han2;obtain ⟨r,hr⟩:=Int.eq_ofNat_of_zero_le b0;obtain ⟨a3,ha3⟩:∃ q,ta ys a2 3=q:=⟨_,rfl⟩;rw [hr] at b1;rw [ha3] at bb;have hr3:(r:Int)<3:=b1;obtain ⟨pp,hpp,hpy,hps⟩:=pieces r (by omega);have HDN:=Hd (dots_more HDT.out hpp);have hls:(runesBytes l).size≤32:=by have h1:=runesBytes_size_le l;have h2:=HDT.out.2.2;omega
     have hsum:¬ (9223372036854775807<(runesBytes l).size+(runesBytes pp).size):=by omega
     have HPY:=Hd hpy;have HD:=Hd H.out.drew;clear hpp hpy hps b0 b1;have CN:=next_k 3 HD.out (i:=3) rfl HJ3.out han2 ⟨by omega,by omega⟩;rw [hr,ha3] at CN;have HRA:=Hd (And.intro hr ha3);clear hr ha3
     go_upto_region 14 with fail
     refine wp_region_held_drew (S:=(fun _=>True)) (by kernel_rfl) ?_ (fun hq_ => ?_)
     ·trivial
     refine tW 0 hq_ ?_ ?_ ?_;rotate_left;focus (rintro wq _;go_simp;try with_reducible rfl)
     try simp only [Act.put,pS2,pS3,pS4]
     refine tW 3 hq_ ?_ ?_ ?_;rotate_left;focus (rintro wq _;go_simp;try with_reducible rfl)
     try simp only [Act.put,pS2,pS3,pS4]
     refine rD [1,2,4] (aC (fun K hK => ?_) (aC (fun K hK => ?_) (aC (fun K hK => ?_) AllReadyH.nil)))
     ·as_aux_lemma =>
       (have hcn:=HD.out.cell 0 6 rfl rfl)
       go_simp
       try go_wp2_with fail
       refine hK.out _ _ ?_ (fun h2q => ?_)
       ·first | with_reducible assumption | (trivial) | assumption
       clear hK K hq_;have hq_:=h2q;clear h2q
       try simp only [Act.put,pS2,pS3,pS4]
       refine rD [2,4] (aC (fun K hK => ?_) (aC (fun K hK => ?_) AllReadyH.nil))
       ·as_aux_lemma =>
         (have K1:=Hd ((H.out.allocBox (wr.heap.size) 9 [.string ⟨#[46]⟩,.string ⟨#[32,46]⟩,.string ⟨#[46,32]⟩] rfl).drew))
         go_simp
         try go_wp2_with fail
         refine hK.out _ _ ?_ (fun h2q => ?_)
         ·first | with_reducible assumption | (trivial) | assumption
         clear hK K hq_;have hq_:=h2q;clear h2q
         try simp only [Act.put,pS2,pS3,pS4]
         refine e1 4 fun K hK => ?_
         first | (refine effU ?_ ?_;(focus rfl)) | (go_simp;(have CN2:=next_k 3 K1.out (i:=4) rfl HJ3.out han2 ⟨by omega,by omega⟩;rw [HRA.out.1,HRA.out.2] at CN2;go_at_call 14;refine CN2.mono ?_;rintro e2 z2 ⟨rfl,l1,hK,hS⟩;have e1:=hK.eq;subst e1;clear hK CN2;have K2:=Hd (show Sep w3 z2 (.box (wr.heap.size) 9 [.string ⟨#[46]⟩,.string ⟨#[32,46]⟩,.string ⟨#[46,32]⟩]::[.box gx 32 [.int .i64 nd.op,.slice P1 p1 q1,.slice P2 p2 q2,.slice P3 p3 q3,.int .i64 nd.n,.int .i64 nd.how,.string (runesBytes l)],.row 32 7 vN i us,.box gw 25 [.slice A na ca,.string G.names,vN,.slice C nc cc],TB w3.heap.size A1 n1 c1 (a3)]) from hS);clear hS);go_wp2_with fail)
         refine hK.out _ _ ?_ (fun h2q => ?_)
         ·first | with_reducible assumption | (trivial) | assumption
         clear hK K hq_;have hq_:=h2q;clear h2q
         try simp only [Act.put,pS2,pS3,pS4]
         refine tW 5 hq_ ?_ ?_ ?_;rotate_left;focus (rintro wq _;go_simp;try with_reducible rfl)
         try simp only [Act.put,pS2,pS3,pS4]
         refine e1 6 fun K hK => ?_
         (have hcs:=K2.out.cell 0 r rfl HPY.out)
         go_simp
         try go_wp2_with fail
         refine hK.out _ _ ?_ (fun h2q => ?_)
         ·first | with_reducible assumption | (trivial) | assumption
         clear hK K hq_;have hq_:=h2q;clear h2q
         try simp only [Act.put,pS2,pS3,pS4]
         refine tW 7 hq_ ?_ ?_ ?_;rotate_left;focus (rintro wq _;go_simp;try with_reducible rfl)
         try simp only [Act.put,pS2,pS3,pS4]
         refine tW 8 hq_ ?_ ?_ ?_;rotate_left;focus (rintro wq _;go_simp;try with_reducible rfl)
         try simp only [Act.put,pS2,pS3,pS4]
         refine e1 9 fun K hK => ?_
         (have fz:=K2.out.frozenBox 1 6 rfl;have cz:=K2.out.cell 1 6 rfl rfl;have hs9:=K2.out.setBox 1 6 (.string (runesBytes l++runesBytes pp)) rfl;have HS:=Hd hs9.tail_;clear hs9)
         go_simp
         try go_wp2_with fail
         refine hK.out _ _ ?_ (fun h2q => ?_)
         ·first | with_reducible assumption | (trivial) | assumption
         clear hK K hq_;have hq_:=h2q;clear h2q
         try simp only [Act.put,pS2,pS3,pS4]
         refine wpAnyH_done (by kernel_rfl) ?_ _;go_wp2;go_roundw
         case rel=>exact ⟨k+1,a3,l++pp,by go_num,by omega,bb,HDN.out,by rw [bytes_append];exact HS.out⟩
         case measure=>simp [intOf];omega
       ·as_aux_lemma =>
         first | (refine effU ?_ ?_;(focus rfl)) | (go_simp;(have CN2:=next_k 3 HD.out (i:=3) rfl HJ3.out han2 ⟨by omega,by omega⟩;rw [HRA.out.1,HRA.out.2] at CN2;go_at_call 14;refine CN2.mono ?_;rintro e1 z1 ⟨rfl,l1,hK,hS⟩;have e1:=hK.eq;subst e1;clear hK CN2;have K1:=Hd (show Sep w3 z1 ([.box gx 32 [.int .i64 nd.op,.slice P1 p1 q1,.slice P2 p2 q2,.slice P3 p3 q3,.int .i64 nd.n,.int .i64 nd.how,.string (runesBytes l)],.row 32 7 vN i us,.box gw 25 [.slice A na ca,.string G.names,vN,.slice C nc cc],TB w3.heap.size A1 n1 c1 (a3)]) from hS);clear hS);go_wp2_with fail)
         refine hK.out _ _ ?_ (fun h2q => ?_)
         ·first | with_reducible assumption | (trivial) | assumption
         clear hK K hq_;have hq_:=h2q;clear h2q
         try simp only [Act.put,pS2,pS3,pS4]
         refine e1 2 fun K hK => ?_
         (have K2:=Hd (K1.out.allocBox (z1.heap.size) 9 [.string ⟨#[46]⟩,.string ⟨#[32,46]⟩,.string ⟨#[46,32]⟩] rfl))
         go_simp
         try go_wp2_with fail
         refine hK.out _ _ ?_ (fun h2q => ?_)
         ·first | with_reducible assumption | (trivial) | assumption
         clear hK K hq_;have hq_:=h2q;clear h2q
         try simp only [Act.put,pS2,pS3,pS4]
         refine tW 5 hq_ ?_ ?_ ?_;rotate_left;focus (rintro wq _;go_simp;try with_reducible rfl)
         try simp only [Act.put,pS2,pS3,pS4]
         refine e1 6 fun K hK => ?_
         (have hcs:=K2.out.cell 0 r rfl HPY.out)
         go_simp
         try go_wp2_with fail
         refine hK.out _ _ ?_ (fun h2q => ?_)
         ·first | with_reducible assumption | (trivial) | assumption
         clear hK K hq_;have hq_:=h2q;clear h2q
         try simp only [Act.put,pS2,pS3,pS4]
         refine tW 7 hq_ ?_ ?_ ?_;rotate_left;focus (rintro wq _;go_simp;try with_reducible rfl)
         try simp only [Act.put,pS2,pS3,pS4]
         refine tW 8 hq_ ?_ ?_ ?_;rotate_left;focus (rintro wq _;go_simp;try with_reducible rfl)
         try simp only [Act.put,pS2,pS3,pS4]
         refine e1 9 fun K hK => ?_
         (have fz:=K2.out.frozenBox 1 6 rfl;have cz:=K2.out.cell 1 6 rfl rfl;have hs9:=K2.out.setBox 1 6 (.string (runesBytes l++runesBytes pp)) rfl;have HS:=Hd hs9.tail_;clear hs9)
         go_simp
         try go_wp2_with fail
         refine hK.out _ _ ?_ (fun h2q => ?_)
         ·first | with_reducible assumption | (trivial) | assumption
         clear hK K hq_;have hq_:=h2q;clear h2q
         try simp only [Act.put,pS2,pS3,pS4]
         refine wpAnyH_done (by kernel_rfl) ?_ _;go_wp2;go_roundw
         case rel=>exact ⟨k+1,a3,l++pp,by go_num,by omega,bb,HDN.out,by rw [bytes_append];exact HS.out⟩
         case measure=>simp [intOf];omega
     ·as_aux_lemma =>
       (have K0:=Hd ((H.out.allocBox (wr.heap.size) 9 [.string ⟨#[46]⟩,.string ⟨#[32,46]⟩,.string ⟨#[46,32]⟩] rfl).drew))
       go_simp
       try go_wp2_with fail
       refine hK.out _ _ ?_ (fun h2q => ?_)
       ·first | with_reducible assumption | (trivial) | assumption
       clear hK K hq_;have hq_:=h2q;clear h2q
       try simp only [Act.put,pS2,pS3,pS4]
       refine rD [1,4] (aC (fun K hK => ?_) (aC (fun K hK => ?_) AllReadyH.nil))
       ·as_aux_lemma =>
         (have hcn:=K0.out.cell 1 6 rfl rfl)
         go_simp
         try go_wp2_with fail
         refine hK.out _ _ ?_ (fun h2q => ?_)
         ·first | with_reducible assumption | (trivial) | assumption
         clear hK K hq_;have hq_:=h2q;clear h2q
         try simp only [Act.put,pS2,pS3,pS4]
         refine e1 4 fun K hK => ?_
         first | (refine effU ?_ ?_;(focus rfl)) | (go_simp;(have CN2:=next_k 3 K0.out (i:=4) rfl HJ3.out han2 ⟨by omega,by omega⟩;rw [HRA.out.1,HRA.out.2] at CN2;go_at_call 14;refine CN2.mono ?_;rintro e2 z2 ⟨rfl,l1,hK,hS⟩;have e1:=hK.eq;subst e1;clear hK CN2;have K2:=Hd (show Sep w3 z2 (.box (wr.heap.size) 9 [.string ⟨#[46]⟩,.string ⟨#[32,46]⟩,.string ⟨#[46,32]⟩]::[.box gx 32 [.int .i64 nd.op,.slice P1 p1 q1,.slice P2 p2 q2,.slice P3 p3 q3,.int .i64 nd.n,.int .i64 nd.how,.string (runesBytes l)],.row 32 7 vN i us,.box gw 25 [.slice A na ca,.string G.names,vN,.slice C nc cc],TB w3.heap.size A1 n1 c1 (a3)]) from hS);clear hS);go_wp2_with fail)
         refine hK.out _ _ ?_ (fun h2q => ?_)
         ·first | with_reducible assumption | (trivial) | assumption
         clear hK K hq_;have hq_:=h2q;clear h2q
         try simp only [Act.put,pS2,pS3,pS4]
         refine tW 5 hq_ ?_ ?_ ?_;rotate_left;focus (rintro wq _;go_simp;try with_reducible rfl)
         try simp only [Act.put,pS2,pS3,pS4]
         refine e1 6 fun K hK => ?_
         (have hcs:=K2.out.cell 0 r rfl HPY.out)
         go_simp
         try go_wp2_with fail
         refine hK.out _ _ ?_ (fun h2q => ?_)
         ·first | with_reducible assumption | (trivial) | assumption
         clear hK K hq_;have hq_:=h2q;clear h2q
         try simp only [Act.put,pS2,pS3,pS4]
         refine tW 7 hq_ ?_ ?_ ?_;rotate_left;focus (rintro wq _;go_simp;try with_reducible rfl)
         try simp only [Act.put,pS2,pS3,pS4]
         refine tW 8 hq_ ?_ ?_ ?_;rotate_left;focus (rintro wq _;go_simp;try with_reducible rfl)
         try simp only [Act.put,pS2,pS3,pS4]
         refine e1 9 fun K hK => ?_
         (have fz:=K2.out.frozenBox 1 6 rfl;have cz:=K2.out.cell 1 6 rfl rfl;have hs9:=K2.out.setBox 1 6 (.string (runesBytes l++runesBytes pp)) rfl;have HS:=Hd hs9.tail_;clear hs9)
         go_simp
         try go_wp2_with fail
         refine hK.out _ _ ?_ (fun h2q => ?_)
         ·first | with_reducible assumption | (trivial) | assumption
         clear hK K hq_;have hq_:=h2q;clear h2q
         try simp only [Act.put,pS2,pS3,pS4]
         refine wpAnyH_done (by kernel_rfl) ?_ _;go_wp2;go_roundw
         case rel=>exact ⟨k+1,a3,l++pp,by go_num,by omega,bb,HDN.out,by rw [bytes_append];exact HS.out⟩
         case measure=>simp [intOf];omega
       ·as_aux_lemma =>
         first | (refine effU ?_ ?_;(focus rfl)) | (go_simp;(have CN2:=next_k 3 K0.out (i:=4) rfl HJ3.out han2 ⟨by omega,by omega⟩;rw [HRA.out.1,HRA.out.2] at CN2;go_at_call 14;refine CN2.mono ?_;rintro e1 z1 ⟨rfl,l1,hK,hS⟩;have e1:=hK.eq;subst e1;clear hK CN2;have K1:=Hd (show Sep w3 z1 (.box (wr.heap.size) 9 [.string ⟨#[46]⟩,.string ⟨#[32,46]⟩,.string ⟨#[46,32]⟩]::[.box gx 32 [.int .i64 nd.op,.slice P1 p1 q1,.slice P2 p2 q2,.slice P3 p3 q3,.int .i64 nd.n,.int .i64 nd.how,.string (runesBytes l)],.row 32 7 vN i us,.box gw 25 [.slice A na ca,.string G.names,vN,.slice C nc cc],TB w3.heap.size A1 n1 c1 (a3)]) from hS);clear hS);go_wp2_with fail)
         refine hK.out _ _ ?_ (fun h2q => ?_)
         ·first | with_reducible assumption | (trivial) | assumption
         clear hK K hq_;have hq_:=h2q;clear h2q
         try simp only [Act.put,pS2,pS3,pS4]
         refine tW 5 hq_ ?_ ?_ ?_;rotate_left;focus (rintro wq _;go_simp;try with_reducible rfl)
         try simp only [Act.put,pS2,pS3,pS4]
         refine rD [1,6] (aC (fun K hK => ?_) (aC (fun K hK => ?_) AllReadyH.nil))
         ·(have hcn:=K1.out.cell 1 6 rfl rfl)
          go_simp
          try go_wp2_with fail
          refine hK.out _ _ ?_ (fun h2q => ?_)
          ·first | with_reducible assumption | (trivial) | assumption
          clear hK K hq_;have hq_:=h2q;clear h2q
          try simp only [Act.put,pS2,pS3,pS4]
          refine e1 6 fun K hK => ?_
          (have hcs:=K1.out.cell 0 r rfl HPY.out)
          go_simp
          try go_wp2_with fail
          refine hK.out _ _ ?_ (fun h2q => ?_)
          ·first | with_reducible assumption | (trivial) | assumption
          clear hK K hq_;have hq_:=h2q;clear h2q
          try simp only [Act.put,pS2,pS3,pS4]
          refine tW 7 hq_ ?_ ?_ ?_;rotate_left;focus (rintro wq _;go_simp;try with_reducible rfl)
          try simp only [Act.put,pS2,pS3,pS4]
          refine tW 8 hq_ ?_ ?_ ?_;rotate_left;focus (rintro wq _;go_simp;try with_reducible rfl)
          try simp only [Act.put,pS2,pS3,pS4]
          refine e1 9 fun K hK => ?_
          (have fz:=K1.out.frozenBox 1 6 rfl;have cz:=K1.out.cell 1 6 rfl rfl;have hs9:=K1.out.setBox 1 6 (.string (runesBytes l++runesBytes pp)) rfl;have HS:=Hd hs9.tail_;clear hs9)
          go_simp
          try go_wp2_with fail
          refine hK.out _ _ ?_ (fun h2q => ?_)
          ·first | with_reducible assumption | (trivial) | assumption
          clear hK K hq_;have hq_:=h2q;clear h2q
          try simp only [Act.put,pS2,pS3,pS4]
          refine wpAnyH_done (by kernel_rfl) ?_ _;go_wp2;go_roundw
          case rel=>exact ⟨k+1,a3,l++pp,by go_num,by omega,bb,HDN.out,by rw [bytes_append];exact HS.out⟩
          case measure=>simp [intOf];omega
         ·(have hcs:=K1.out.cell 0 r rfl HPY.out)
          go_simp
          try go_wp2_with fail
          refine hK.out _ _ ?_ (fun h2q => ?_)
          ·first | with_reducible assumption | (trivial) | assumption
          clear hK K hq_;have hq_:=h2q;clear h2q
          try simp only [Act.put,pS2,pS3,pS4]
          refine e1 1 fun K hK => ?_
          (have hcn:=K1.out.cell 1 6 rfl rfl)
          go_simp
          try go_wp2_with fail
          refine hK.out _ _ ?_ (fun h2q => ?_)
          ·first | with_reducible assumption | (trivial) | assumption
          clear hK K hq_;have hq_:=h2q;clear h2q
          try simp only [Act.put,pS2,pS3,pS4]
          refine tW 7 hq_ ?_ ?_ ?_;rotate_left;focus (rintro wq _;go_simp;try with_reducible rfl)
          try simp only [Act.put,pS2,pS3,pS4]
          refine tW 8 hq_ ?_ ?_ ?_;rotate_left;focus (rintro wq _;go_simp;try with_reducible rfl)
          try simp only [Act.put,pS2,pS3,pS4]
          refine e1 9 fun K hK => ?_
          (have fz:=K1.out.frozenBox 1 6 rfl;have cz:=K1.out.cell 1 6 rfl rfl;have hs9:=K1.out.setBox 1 6 (.string (runesBytes l++runesBytes pp)) rfl;have HS:=Hd hs9.tail_;clear hs9)
          go_simp
          try go_wp2_with fail
          refine hK.out _ _ ?_ (fun h2q => ?_)
          ·first | with_reducible assumption | (trivial) | assumption
          clear hK K hq_;have hq_:=h2q;clear h2q
          try simp only [Act.put,pS2,pS3,pS4]
          refine wpAnyH_done (by kernel_rfl) ?_ _;go_wp2;go_roundw
          case rel=>exact ⟨k+1,a3,l++pp,by go_num,by omega,bb,HDN.out,by rw [bytes_append];exact HS.out⟩
          case measure=>simp [intOf];omega
     ·as_aux_lemma =>
       first | (refine effU ?_ ?_;(focus rfl)) | (go_simp;(have CN2:=next_k 3 HD.out (i:=3) rfl HJ3.out han2 ⟨by omega,by omega⟩;rw [HRA.out.1,HRA.out.2] at CN2;go_at_call 14;refine CN2.mono ?_;rintro e0 z0 ⟨rfl,l1,hK,hS⟩;have e1:=hK.eq;subst e1;clear hK CN2;have K0:=Hd (show Sep w3 z0 ([.box gx 32 [.int .i64 nd.op,.slice P1 p1 q1,.slice P2 p2 q2,.slice P3 p3 q3,.int .i64 nd.n,.int .i64 nd.how,.string (runesBytes l)],.row 32 7 vN i us,.box gw 25 [.slice A na ca,.string G.names,vN,.slice C nc cc],TB w3.heap.size A1 n1 c1 (a3)]) from hS);clear hS);go_wp2_with fail)
       refine hK.out _ _ ?_ (fun h2q => ?_)
       ·first | with_reducible assumption | (trivial) | assumption
       clear hK K hq_;have hq_:=h2q;clear h2q
       try simp only [Act.put,pS2,pS3,pS4]
       refine rD [1,2] (aC (fun K hK => ?_) (aC (fun K hK => ?_) AllReadyH.nil))
       ·as_aux_lemma =>
         (have hcn:=K0.out.cell 0 6 rfl rfl)
         go_simp
         try go_wp2_with fail
         refine hK.out _ _ ?_ (fun h2q => ?_)
         ·first | with_reducible assumption | (trivial) | assumption
         clear hK K hq_;have hq_:=h2q;clear h2q
         try simp only [Act.put,pS2,pS3,pS4]
         refine e1 2 fun K hK => ?_
         (have K2:=Hd (K0.out.allocBox (z0.heap.size) 9 [.string ⟨#[46]⟩,.string ⟨#[32,46]⟩,.string ⟨#[46,32]⟩] rfl))
         go_simp
         try go_wp2_with fail
         refine hK.out _ _ ?_ (fun h2q => ?_)
         ·first | with_reducible assumption | (trivial) | assumption
         clear hK K hq_;have hq_:=h2q;clear h2q
         try simp only [Act.put,pS2,pS3,pS4]
         refine tW 5 hq_ ?_ ?_ ?_;rotate_left;focus (rintro wq _;go_simp;try with_reducible rfl)
         try simp only [Act.put,pS2,pS3,pS4]
         refine e1 6 fun K hK => ?_
         (have hcs:=K2.out.cell 0 r rfl HPY.out)
         go_simp
         try go_wp2_with fail
         refine hK.out _ _ ?_ (fun h2q => ?_)
         ·first | with_reducible assumption | (trivial) | assumption
         clear hK K hq_;have hq_:=h2q;clear h2q
         try simp only [Act.put,pS2,pS3,pS4]
         refine tW 7 hq_ ?_ ?_ ?_;rotate_left;focus (rintro wq _;go_simp;try with_reducible rfl)
         try simp only [Act.put,pS2,pS3,pS4]
         refine tW 8 hq_ ?_ ?_ ?_;rotate_left;focus (rintro wq _;go_simp;try with_reducible rfl)
         try simp only [Act.put,pS2,pS3,pS4]
         refine e1 9 fun K hK => ?_
         (have fz:=K2.out.frozenBox 1 6 rfl;have cz:=K2.out.cell 1 6 rfl rfl;have hs9:=K2.out.setBox 1 6 (.string (runesBytes l++runesBytes pp)) rfl;have HS:=Hd hs9.tail_;clear hs9)
         go_simp
         try go_wp2_with fail
         refine hK.out _ _ ?_ (fun h2q => ?_)
         ·first | with_reducible assumption | (trivial) | assumption
         clear hK K hq_;have hq_:=h2q;clear h2q
         try simp only [Act.put,pS2,pS3,pS4]
         refine wpAnyH_done (by kernel_rfl) ?_ _;go_wp2;go_roundw
         case rel=>exact ⟨k+1,a3,l++pp,by go_num,by omega,bb,HDN.out,by rw [bytes_append];exact HS.out⟩
         case measure=>simp [intOf];omega
       ·as_aux_lemma =>
         (have K1:=Hd (K0.out.allocBox (z0.heap.size) 9 [.string ⟨#[46]⟩,.string ⟨#[32,46]⟩,.string ⟨#[46,32]⟩] rfl))
         go_simp
         try go_wp2_with fail
         refine hK.out _ _ ?_ (fun h2q => ?_)
         ·first | with_reducible assumption | (trivial) | assumption
         clear hK K hq_;have hq_:=h2q;clear h2q
         try simp only [Act.put,pS2,pS3,pS4]
         refine tW 5 hq_ ?_ ?_ ?_;rotate_left;focus (rintro wq _;go_simp;try with_reducible rfl)
         try simp only [Act.put,pS2,pS3,pS4]
         refine rD [1,6] (aC (fun K hK => ?_) (aC (fun K hK => ?_) AllReadyH.nil))
         ·(have hcn:=K1.out.cell 1 6 rfl rfl)
          go_simp
          try go_wp2_with fail
          refine hK.out _ _ ?_ (fun h2q => ?_)
          ·first | with_reducible assumption | (trivial) | assumption
          clear hK K hq_;have hq_:=h2q;clear h2q
          try simp only [Act.put,pS2,pS3,pS4]
          refine e1 6 fun K hK => ?_
          (have hcs:=K1.out.cell 0 r rfl HPY.out)
          go_simp
          try go_wp2_with fail
          refine hK.out _ _ ?_ (fun h2q => ?_)
          ·first | with_reducible assumption | (trivial) | assumption
          clear hK K hq_;have hq_:=h2q;clear h2q
          try simp only [Act.put,pS2,pS3,pS4]
          refine tW 7 hq_ ?_ ?_ ?_;rotate_left;focus (rintro wq _;go_simp;try with_reducible rfl)
          try simp only [Act.put,pS2,pS3,pS4]
          refine tW 8 hq_ ?_ ?_ ?_;rotate_left;focus (rintro wq _;go_simp;try with_reducible rfl)
          try simp only [Act.put,pS2,pS3,pS4]
          refine e1 9 fun K hK => ?_
          (have fz:=K1.out.frozenBox 1 6 rfl;have cz:=K1.out.cell 1 6 rfl rfl;have hs9:=K1.out.setBox 1 6 (.string (runesBytes l++runesBytes pp)) rfl;have HS:=Hd hs9.tail_;clear hs9)
          go_simp
          try go_wp2_with fail
          refine hK.out _ _ ?_ (fun h2q => ?_)
          ·first | with_reducible assumption | (trivial) | assumption
          clear hK K hq_;have hq_:=h2q;clear h2q
          try simp only [Act.put,pS2,pS3,pS4]
          refine wpAnyH_done (by kernel_rfl) ?_ _;go_wp2;go_roundw
          case rel=>exact ⟨k+1,a3,l++pp,by go_num,by omega,bb,HDN.out,by rw [bytes_append];exact HS.out⟩
          case measure=>simp [intOf];omega
         ·(have hcs:=K1.out.cell 0 r rfl HPY.out)
          go_simp
          try go_wp2_with fail
          refine hK.out _ _ ?_ (fun h2q => ?_)
          ·first | with_reducible assumption | (trivial) | assumption
          clear hK K hq_;have hq_:=h2q;clear h2q
          try simp only [Act.put,pS2,pS3,pS4]
          refine e1 1 fun K hK => ?_
          (have hcn:=K1.out.cell 1 6 rfl rfl)
          go_simp
          try go_wp2_with fail
          refine hK.out _ _ ?_ (fun h2q => ?_)
          ·first | with_reducible assumption | (trivial) | assumption
          clear hK K hq_;have hq_:=h2q;clear h2q
          try simp only [Act.put,pS2,pS3,pS4]
          refine tW 7 hq_ ?_ ?_ ?_;rotate_left;focus (rintro wq _;go_simp;try with_reducible rfl)
          try simp only [Act.put,pS2,pS3,pS4]
          refine tW 8 hq_ ?_ ?_ ?_;rotate_left;focus (rintro wq _;go_simp;try with_reducible rfl)
          try simp only [Act.put,pS2,pS3,pS4]
          refine e1 9 fun K hK => ?_
          (have fz:=K1.out.frozenBox 1 6 rfl;have cz:=K1.out.cell 1 6 rfl rfl;have hs9:=K1.out.setBox 1 6 (.string (runesBytes l++runesBytes pp)) rfl;have HS:=Hd hs9.tail_;clear hs9)
          go_simp
          try go_wp2_with fail
          refine hK.out _ _ ?_ (fun h2q => ?_)
          ·first | with_reducible assumption | (trivial) | assumption
          clear hK K hq_;have hq_:=h2q;clear h2q
          try simp only [Act.put,pS2,pS3,pS4]
          refine wpAnyH_done (by kernel_rfl) ?_ _;go_wp2;go_roundw
          case rel=>exact ⟨k+1,a3,l++pp,by go_num,by omega,bb,HDN.out,by rw [bytes_append];exact HS.out⟩
          case measure=>simp [intOf];omega
    ·obtain rfl:k=s.length:=by omega
     obtain ⟨k0,k1,k2,k3⟩:=H.out.cells4 2 rfl;obtain ⟨x0,x1,x2,x3,x4,x5,x6⟩:=H.out.cells7 0 rfl
     go_wp2_with (at_builtin;refine wpList_append_nod rfl (.tmp 63) (.tmp 65) 23 rfl Try.underlying23 H.out 1 rfl rfl _ rfl rfl rfl rfl rfl rfl rfl rfl ?c1 ?_)
     case c1=>omega
     intro v9 w9 h9;obtain ⟨gN,c9,hv,hc9⟩:=h9.rowForm 1 rfl (by omega);subst hv;have H9:=Hd h9;clear h9 k0 k1 k2 k3 x0 x1 x2 x3 x4 x5 x6;obtain ⟨k0,k1,k2,k3⟩:=H9.out.cells4 2 rfl;have fk0:=H9.out.frozenBox 2 0 rfl;have fk1:=H9.out.frozenBox 2 1 rfl;have fk2:=H9.out.frozenBox 2 2 rfl;have fk3:=H9.out.frozenBox 2 3 rfl;have h10:=(H9.out.setBox 2 2 (.slice (some ⟨gN,0,none⟩) (i+1) c9) rfl).tail_;have H10:=Hd h10;clear h10;go_wp2;go_roundw
     case rel=>exact ⟨i+1,a2,N' ++ [noted nd (runesBytes l)],us++([.int .i64 nd.op,.slice P1 p1 q1,.slice P2 p2 q2,.slice P3 p3 q3,.int .i64 nd.n,.int .i64 nd.how,.string (runesBytes l)]:List Value),_,by go_num,by omega,han2,by rw [List.length_append,List.length_singleton,HNL.out],HK.out.append (nodK_one (nd:=noted nd (runesBytes l)) ⟨HNLo.out.ia,HNLo.out.ib,HNLo.out.ic,HNLo.out.inA,HNLo.out.inB,HNLo.out.inC,HNLo.out.op,HNLo.out.n,HNLo.out.how,by have h1:=runesBytes_size_le l;have h2:=HDT.out.2.2;show (runesBytes l).size≤_;omega⟩),HNT.out.snoc (by rw [HNL.out];exact HND.out) (by rw [HNL.out];exact HSI.out) HDT.out,H10.out⟩
     case measure=>simp [intOf];omega
  ·obtain rfl:m2=i:=by omega
   have HR:=Hd (HNT.out.all (by rw [HNL.out,HNB.out]));obtain ⟨An,cn,hv,hcn,hNods⟩:=row_nods 0 H.out rfl (HK.out.below H.out.base) HNL.out (by omega);subst hv;have hGW:GraphIs wr (.agg #[.slice A na ca,.string G.names,.slice An m2 cn,.slice C nc cc]) ⟨G.sizes,G.names,N', G.outs⟩:=⟨_,_,_,_,_,_,_,_,_,rfl,⟨HL3.out.ia,hcn,HL3.out.ic,(HL3.out.below H.out.base).inA,hNods,(HL3.out.below H.out.base).inC,HL3.out.names⟩⟩;have hins:∀ nd∈N', nd.ins.length≤10:=HNT.out.ins (by rw [HNL.out,HNB.out];exact Nat.le_refl _) (by rw [HLN.out]) HF1.out.small;have CC:=gShapes_any hGW (small_of fun nd h=>Nat.le_trans (hins nd h) (by omega));rw [HSN.out N' HR.out] at CC;have HINS:=Hd hins;clear hNods hGW hins;obtain ⟨k0,k1,k2,k3⟩:=H.out.cells4 1 rfl
   go_wp2_with fail
   refine CC.mono ?_;rintro e9 w9 ⟨⟨A8,m8,c8,rfl,hc8,hL8⟩,hb9⟩;have hm8:m8=m2:=by have:=hL8.1;have:=HLL.out;omega
   subst hm8;replace H:=Hd (H.out.below hb9);have CR:=rows_eq (c:=c2) (d:=c8) (HL2.out.below H.out.base) hL8;clear CC hb9 hL8 k0 k1 k2 k3
   go_wp2_with fail
   refine CR.mono ?_;rintro e10 w10 ⟨rfl,q10,hw10⟩;replace H:=Hd (H.out.drewN q10);rw [← hw10] at H;clear CR hw10;obtain ⟨k0,k1,k2,k3⟩:=H.out.cells4 1 rfl;by_cases h0:m8=0
   ·have d0:((m8:Int)==0)=true:=by simpa using h0
    go_wp2_with fail
    refine (l10known_any w10).mono ?_;rintro e11 w11 ⟨rfl,hb11⟩;have H11:=Hd (H.out.below hb11);clear hb11;go_wp2;go_ret;exact ⟨by trivial,then_ HB0.out (then_ HB1.out H11.out.base)⟩
   ·have d0:((m8:Int)==0)=false:=by simpa using h0
    obtain ⟨gN,cR,hv,hcR⟩:=H.out.rowForm 0 rfl (by omega);injection hv with hv1 _ hv3
    subst hv1;subst hv3;obtain ⟨nd0,hnd0⟩:∃ nd,G.nodes[0]? = some nd:=⟨_,List.getElem?_eq_getElem (by have:=HNB.out;omega)⟩;obtain ⟨s0,hs0⟩:∃ s,L[0]? = some s:=⟨_,List.getElem?_eq_getElem (by have:=HLL.out;omega)⟩;obtain ⟨l0,hd0,hN0⟩:=HNT.out 0 nd0 s0 (by rw [HNL.out];omega) hnd0 hs0;have hs04:s0.length≤4:=HSL.out s0 (List.mem_of_getElem? hs0);obtain ⟨E1,e1n,e1c,E2,e2n,e2c,E3,e3n,e3c,hcl,_⟩:=HK.out.2 0 _ hN0;have c6:w10.cell? ⟨gN,6,none⟩=some (.string (runesBytes l0)):=H.out.cellRow 0 rfl (hcl 6 (by omega));have f6:=H.out.frozenRow 0 rfl 6;have hsz:(runesBytes l0).size≤32:=by have h1:=runesBytes_size_le l0;have h2:=hd0.2.2;omega
    have hsum:(runesBytes l0).size+(⟨#[46,46,46,46,46]⟩:ByteArray).size≤9223372036854775807:=by have:(⟨#[46,46,46,46,46]⟩:ByteArray).size=5:=rfl;omega
    have h12:=H.out.setRow 0 rfl 6 (.string (runesBytes l0++⟨#[46,46,46,46,46]⟩));have HT5:Hid (runesBytes l0++⟨#[46,46,46,46,46]⟩=runesBytes (l0++[46,46,46,46,46])):=Hd (by rw [bytes_append,show runesBytes [46,46,46,46,46]=⟨#[46,46,46,46,46]⟩ from by kernel_rfl]);have HSZ:=Hd hsz;have HK2:=Hd (HK.out.setNote (k:=0) hN0 (t:=runesBytes l0++⟨#[46,46,46,46,46]⟩) (by rw [ByteArray.size_append];have:(⟨#[46,46,46,46,46]⟩:ByteArray).size=5:=rfl;omega));have HN0:=Hd hN0;have HD0:=Hd hd0;have HND0:=Hd hnd0;have HS0:=Hd hs0;clear hN0 hd0 hnd0 hs0 hcl hsz
    go_upto_region 24 with fail
    generalize w10.setCell ⟨gN,6,none⟩ (.string (runesBytes l0++⟨#[46,46,46,46,46]⟩))=w11 at *;replace H:=Hd (show Sep w3 w11 [.row 32 7 (.slice (some ⟨gN,0,none⟩) m8 cn) m8 (us.set 6 (.string (runesBytes l0++⟨#[46,46,46,46,46]⟩))),.box gw 25 [.slice A na ca,.string G.names,.slice (some ⟨gN,0,none⟩) m8 cn,.slice C nc cc],TB w3.heap.size A1 n1 c1 (a)] from h12);clear h12 k0 k1 k2 k3 c6 f6 hsum
    obtain ⟨nd1,N1,hN1⟩:∃ nd1 N1,N' = nd1::N1:=by
     cases hN:N' with
     | nil=>have:=HNL.out;rw [hN] at this;exact absurd this.symm h0
     | cons x y=>exact ⟨x,y,rfl⟩
    subst hN1;have hnd1:nd1=noted nd0 (runesBytes l0):=by have:=HN0.out;injection this
    have hSO:=HSO.out nd1 N1 l0 s0 HR.out nd0 HND0.out HS0.out HD0.out hnd1;rw [← HT5.out] at hSO;have hKK:NodK w3 (us.set 6 (.string (runesBytes l0++⟨#[46,46,46,46,46]⟩))) (noted nd1 (runesBytes l0++⟨#[46,46,46,46,46]⟩)::N1):=by have:=HK2.out;rw [← hnd1] at this;exact this
    obtain ⟨An2,cn2,hv,hcn2,hNods⟩:=row_nods 0 H.out rfl (hKK.below H.out.base) HNL.out (by omega);injection hv with q1 _ q3
    subst q1;subst q3;have hGW:GraphIs w11 (.agg #[.slice A na ca,.string G.names,.slice (some ⟨gN,0,none⟩) m8 cn,.slice C nc cc]) ⟨G.sizes,G.names,noted nd1 (runesBytes l0++⟨#[46,46,46,46,46]⟩)::N1,G.outs⟩:=⟨_,_,_,_,_,_,_,_,_,rfl,⟨HL3.out.ia,hcn2,HL3.out.ic,(HL3.out.below H.out.base).inA,hNods,(HL3.out.below H.out.base).inC,HL3.out.names⟩⟩
    have CC:=gRight_any hGW (small_of fun nd h=>by
     rcases List.mem_cons.1 h with h | h
     ·rw [h];exact Nat.le_trans (HINS.out nd1 (by simp)) (by omega)
     ·exact Nat.le_trans (HINS.out nd (by simp [h])) (by omega))
    rw [hSO] at CC;clear hGW hNods hSO hKK hnd1;obtain ⟨k0,k1,k2,k3⟩:=H.out.cells4 1 rfl
    go_wp2_with fail
    refine CC.mono ?_;rintro e12 w12 ⟨rfl,hb12⟩;replace H:=Hd (H.out.below hb12);clear CC hb12 k0 k1 k2 k3
    go_wp2_with fail
    refine (l10known_any w12).mono ?_;rintro e13 w13 ⟨rfl,hb13⟩;replace H:=Hd (H.out.below hb13);clear hb13;go_wp2;go_ret;exact ⟨by trivial,then_ HB0.out (then_ HB1.out H.out.base)⟩
end Go.Proofs.Ytnnmplkgenhofaa
