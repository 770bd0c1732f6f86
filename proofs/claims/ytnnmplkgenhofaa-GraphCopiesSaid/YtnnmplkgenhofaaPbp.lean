import Derived.Test.YtnnmplkgenhofaaPbm
import Derived.Test.YtnnmplkgenhofaaPbn
import Derived.Test.YtnnmplkgenhofaaPbo
namespace Go.Proofs.Ytnnmplkgenhofaa
open Go.RowKit
theorem takes_kind {op:Int} (h1:4≤op) (h2:op≤20):(takesF op).1=1∨(takesF op).1=2∨(takesF op).1=3∨(takesF op).1 = -1:=by
 by_cases g0:op=4∨op=5
 ·left;rw [takesF];(repeat rw [if_neg (by omega)]);rw [if_pos g0]
 by_cases g1:6≤op∧op≤11
 ·right;left;rw [takesF];(repeat rw [if_neg (by omega)]);rw [if_pos g1]
 by_cases g2:op=12
 ·right;right;left;rw [takesF];(repeat rw [if_neg (by omega)]);rw [if_pos g2]
 by_cases g3:op=13∨op=15
 ·left;rw [takesF];(repeat rw [if_neg (by omega)]);rw [if_pos g3]
 by_cases g4:op=14
 ·left;rw [takesF];(repeat rw [if_neg (by omega)]);rw [if_pos g4]
 by_cases g5:op=16
 ·left;rw [takesF];(repeat rw [if_neg (by omega)]);rw [if_pos g5]
 by_cases g6:op=17
 ·right;right;right;rw [takesF];(repeat rw [if_neg (by omega)]);rw [if_pos g6]
 by_cases g7:op=18∨op=20
 ·left;rw [takesF];(repeat rw [if_neg (by omega)]);rw [if_pos g7]
 ·right;left;rw [takesF];(repeat rw [if_neg (by omega)]);rw [if_pos (by omega)]
theorem form_cons {nd:NodeV} {L:List (List Int)} (h:formF nd L.length=true) (hop:4≤nd.op):∃ s L2,L=s::L2:=by
 have h9:=form_k h rfl;have h8:=takes_kind hop (form_op h).2
 cases L with
 | nil=>exfalso;apply h9;simp only [List.length_nil];omega
 | cons s L2=>exact ⟨s,L2,rfl⟩
set_option maxRecDepth 100000 in
set_option maxHeartbeats 6400000 in
theorem gShape_any {w:World} {v:Value} {nd:NodeV} {Al:Option Addr} {nl cl:Nat} {L:List (List Int)} (h:NodeIs w v nd) (hLi:Lils w Al nl L) (hncl:nl≤cl:=by omega) :
  Calls Try.prog 44 #[v,.slice Al nl cl] w fun e w' => (∃ v m,e=.returned (.tuple #[v,.int .i64 (shapeR nd L).1])∧OwnS w' w.heap.size 3 v m (shapeR nd L).2)∧Below w.heap.size w w' := by
 have HN:=h;obtain ⟨A,na,ca,B,nb,cb,C,nc,cc,rfl,hL⟩:=h;replace HN:=Hd HN;have hll:=hLi.1;have hln:=hLi.2.1;have h1:=(Sep.nil w).allocBox w.heap.size 32 [.int .i64 nd.op,.slice A na ca,.slice B nb cb,.slice C nc cc,.int .i64 nd.n,.int .i64 nd.how,.string nd.note] rfl;have HL:=Hd hL;have hib:=hL.ib;have hic:=hL.ic;have hbl:=hL.inB.le;have hcl9:=hL.inC.le;have HLL:=Hd hll;have HLI:=Hd hLi;clear hL hLi hll
 go_enter Try.func44,Try.ntmps44
 go_upto_region 1 with fail
 generalize w.alloc (.cells #[.int .i64 nd.op,.slice A na ca,.slice B nb cb,.slice C nc cc,.int .i64 nd.n,.int .i64 nd.how,.string nd.note] 32)=W at *;generalize hgn:w.heap.size=gn at *;have HGN:=Hd hgn;have H:=Hd h1;clear h1 hgn;obtain ⟨n0,n1,n2,n3,n4,n5,n6⟩:=H.out.cells7 0 rfl;have C1:=gFits_any (nl:Int) (HN.out.below H.out.base)
 cases hf:formF nd nl with
 | false =>
  rw [hf] at C1;have HX:=Hd (shapeR_form (nd:=nd) (L:=L) (by rw [HLL.out];exact hf))
  go_wp2_with fail
  refine C1.mono ?_;rintro e2 w2 ⟨rfl,hb⟩;replace H:=Hd (H.out.below hb);clear C1 hf hb n0 n1 n2 n3 n4 n5 n6;go_wp2;go_ret2;rw [HX.out]
  exact ⟨⟨_,0,rfl,OwnS.nil_ _ _ _⟩,H.out.base⟩
 | true =>
  rw [hf] at C1;have HF:=Hd (show formF nd L.length=true by rw [HLL.out];exact hf)
  go_wp2_with fail
  refine C1.mono ?_;rintro e2 w2 ⟨rfl,hb⟩;replace H:=Hd (H.out.below hb);clear C1 hf hb n0 n1 n2 n3 n4 n5 n6
  go_wp2_with fail
  go_loopw [15] (fun iv wr=>∃ j:Nat,iv=.int .i64 j∧j≤nl∧(∀ (i:Nat) (s:List Int),L[i]? = some s→i<j→Sh.right s=true)∧Sep w wr [.box gn 32 [.int .i64 nd.op,.slice A na ca,.slice B nb cb,.slice C nc cc,.int .i64 nd.n,.int .i64 nd.how,.string nd.note]]) (fun iv _=>nl-(intOf iv).toNat)
  case atStart=>exact ⟨0,rfl,by omega,by omega,H.out⟩
  case round =>
   clear H;obtain ⟨j,rfl,hj,hAll,hS⟩:=hrel;have H:=Hd hS;have HA:=Hd hAll;clear hS hAll;by_cases hlt:j<nl
   ·obtain ⟨s,hs⟩:∃ s,L[j]? = some s:=⟨_,List.getElem?_eq_getElem (by have:=HLL.out;omega)⟩;obtain ⟨la,Bs,ms,cs,hla,hlb,hcl,hmc,hI⟩:=HLI.out.2.2 j s hs;subst hla;have hcj:=H.out.oldCell (p:=la.add j) (blk_add hlb) hcl;have HSJ:=Hd hs;have CR:=right_any (c:=cs) (H.out.oldI hI);clear hI hcl hs
    cases hr:Sh.right s with
    | false =>
     rw [hr] at CR;have HX:=Hd (shapeR_bad HF.out HSJ.out hr);clear hr
     go_wp2_with fail
     refine CR.mono ?_;rintro e3 w3 ⟨rfl,rfl⟩;clear CR;go_wp2;go_ret2;rw [HX.out]
     exact ⟨⟨_,0,rfl,OwnS.nil_ _ _ _⟩,H.out.base⟩
    | true =>
     rw [hr] at CR;have HR:=Hd hr;clear hr
     go_wp2_with fail
     refine CR.mono ?_;rintro e3 w3 ⟨rfl,rfl⟩;clear CR hcj;go_wp2;go_roundw
     case rel=>exact ⟨j+1,by go_num,by omega,(fun i s2 hi hi2=>by
      rcases Nat.lt_or_ge i j with hij | hij
      ·exact HA.out i s2 hi hij
      ·obtain rfl:i=j:=by omega
       obtain rfl:s2=s:=by have:=HSJ.out;rw [hi] at this;injection this
       exact HR.out),H.out⟩
     case measure=>simp [intOf];omega
   ·obtain rfl:j=nl:=by omega
    have HALL:=Hd (show L.all Sh.right=true from all_take fun i s hi hi2=>HA.out i s hi (by have:=HLL.out;omega));have HOP:=Hd (shapeR_op HF.out HALL.out);have hops:=form_op HF.out;obtain ⟨n0,n1,n2,n3,n4,n5,n6⟩:=H.out.cells7 0 rfl;by_cases h1:nd.op=1∨nd.op=2
    ·have HX:=Hd (HOP.out.trans (show opP nd L=ownP nd.shape by rw [opP,if_pos h1]));have CC:=gOwn_any (c:=cb) (H.out.oldI HL.out.inB);rcases h1 with h1 | h1
     ·have b1:(nd.op==1)=true:=by simpa using h1
      clear h1 hops
      go_wp2_with fail
      refine CC.mono ?_;rintro e3 w3 ⟨⟨v3,m3,rfl,hO3⟩,hb3⟩;have H3:=Hd (H.out.addOwn hb3 hO3);clear CC hO3 hb3 n0 n1 n2 n3 n4 n5 n6;go_wp2;go_ret2;rw [HX.out];exact ⟨⟨_,m3,rfl,H3.out.ownS 0 rfl⟩,H3.out.base⟩
     ·have b2:(nd.op==2)=true:=by simpa using h1
      have b1:(nd.op==1)=false:=by simp;omega
      clear h1 hops
      go_wp2_with fail
      refine CC.mono ?_;rintro e3 w3 ⟨⟨v3,m3,rfl,hO3⟩,hb3⟩;have H3:=Hd (H.out.addOwn hb3 hO3);clear CC hO3 hb3 n0 n1 n2 n3 n4 n5 n6;go_wp2;go_ret2;rw [HX.out];exact ⟨⟨_,m3,rfl,H3.out.ownS 0 rfl⟩,H3.out.base⟩
    by_cases h3:nd.op=3
    ·have HX:=Hd (HOP.out.trans (show opP nd L=countP nd.shape nd.a by rw [opP,if_neg h1,if_pos h3]));have b1:(nd.op==1)=false:=by simp;omega
     have b2:(nd.op==2)=false:=by simp;omega
     have b3:(nd.op==3)=true:=by simpa using h3
     have CC:=gCounted_any (c:=cb) (d:=cc) (H.out.oldI HL.out.inB) (H.out.oldI HL.out.inC);clear h1 h3 hops
     go_wp2_with fail
     refine CC.mono ?_;rintro e3 w3 ⟨⟨v3,m3,rfl,hO3⟩,hb3⟩;have H3:=Hd (H.out.addOwn hb3 hO3);clear CC hO3 hb3 n0 n1 n2 n3 n4 n5 n6;go_wp2;go_ret2;rw [HX.out];exact ⟨⟨_,m3,rfl,H3.out.ownS 0 rfl⟩,H3.out.base⟩
    have h4:4≤nd.op:=by omega
    obtain ⟨s,L2,hcons⟩:=form_cons HF.out (by omega);subst hcons;have HRS:=Hd (List.all_eq_true.1 HALL.out s (by simp));obtain ⟨a0,B0,ns,c0,hAl,hab,hca,hmc,hI⟩:=HLI.out.head;subst hAl;have HI:=Hd hI;have HCA:=Hd hca;have hnsl:=hI.le;clear hI hca;have hn1:1≤j:=by have:=HLL.out;rw [List.length_cons] at this;omega
    by_cases h13:nd.op=13
    ·have HX:=Hd (HOP.out.trans (show opP nd (s::L2)=turnedP s nd.a by rw [opP];(repeat rw [if_neg (by omega)]);rw [if_pos h13];rfl));have b1:(nd.op==1)=false:=by simp;omega
     have b2:(nd.op==2)=false:=by simp;omega
     have b3:(nd.op==3)=false:=by simp;omega
     have b13:(nd.op==13)=true:=by simpa using h13
     clear h1 h3 hops h4 h13;have H0:=Hd H.out.drew;have HI0:=Hd (H0.out.oldI HI.out);have HIB:=Hd (H0.out.oldI HL.out.inB);have HIC:=Hd (H0.out.oldI HL.out.inC);have hc0:=H.out.oldCell hab HCA.out;have hl0:0<j:=by omega
     have hl1:(0:Int)<j:=by omega
     go_upto_region 16 with fail
     clear n0 n1 n2 n3 n4 n5 n6 hc0;have i0:=H0.out.oldCell hab HCA.out;have i2:=H0.out.cell 0 2 rfl rfl;have i3:=H0.out.cell 0 3 rfl rfl;have i5:=H0.out.cell 0 5 rfl rfl;refine wp_region_held_drew (S:=(fun w' => w'.cell? a0=some (.slice B0 ns c0)∧w'.cell? ⟨gn,3,none⟩=some (.slice C nc cc))) (by kernel_rfl) ?_ (fun hq_ => ?_)
     ·exact ⟨i0,i3⟩
     refine tW 0 hq_ ?_ ?_ ?_;rotate_left;focus (rintro wq ⟨s0,s3⟩;go_simp;try with_reducible rfl)
     try simp only [Act.put,pS2,pS3,pS4]
     refine tW 1 hq_ ?_ ?_ ?_;rotate_left;focus (rintro wq ⟨s0,s3⟩;go_simp;try with_reducible rfl)
     try simp only [Act.put,pS2,pS3,pS4]
     refine tW 2 hq_ ?_ ?_ ?_;rotate_left;focus (rintro wq ⟨s0,s3⟩;go_simp;try with_reducible rfl)
     try simp only [Act.put,pS2,pS3,pS4]
     refine tW 3 hq_ ?_ ?_ ?_;rotate_left;focus (rintro wq ⟨s0,s3⟩;go_simp;try with_reducible rfl)
     try simp only [Act.put,pS2,pS3,pS4]
     refine tW 4 hq_ ?_ ?_ ?_;rotate_left;focus (rintro wq ⟨s0,s3⟩;go_simp;try with_reducible rfl)
     try simp only [Act.put,pS2,pS3,pS4]
     refine e1 5 fun K hK => ?_
     first | (refine effU ?_ ?_;(focus rfl)) | (go_simp;(go_at_call 64;refine (gTurned_any (c:=c0) HI0.out HIC.out hic HRS.out).mono ?_;rintro e3 w3 ⟨⟨v3,m3,rfl,hO3⟩,hb3⟩;have H3:=Hd (H0.out.addOwn hb3 hO3);have m0:=H3.out.oldCell hab HCA.out;have m2:=H3.out.cell 1 2 rfl rfl;have m3c:=H3.out.cell 1 3 rfl rfl;have m5:=H3.out.cell 1 5 rfl rfl;clear hb3 hO3);go_wp2_with fail)
     refine hK.out _ _ ?_ (fun h2q => ?_)
     ·first | with_reducible assumption | (exact ⟨m0,m3c⟩) | assumption
     clear hK K hq_;have hq_:=h2q;clear h2q
     try simp only [Act.put,pS2,pS3,pS4]
     refine tW 6 hq_ ?_ ?_ ?_;rotate_left;focus (rintro wq ⟨s0,s3⟩;go_simp;try with_reducible rfl)
     try simp only [Act.put,pS2,pS3,pS4]
     refine tW 7 hq_ ?_ ?_ ?_;rotate_left;focus (rintro wq ⟨s0,s3⟩;go_simp;try with_reducible rfl)
     try simp only [Act.put,pS2,pS3,pS4]
     refine tW 8 hq_ ?_ ?_ ?_;rotate_left;focus (rintro wq ⟨s0,s3⟩;go_simp;try with_reducible rfl)
     try simp only [Act.put,pS2,pS3,pS4]
     refine tW 9 hq_ ?_ ?_ ?_;rotate_left;focus (rintro wq ⟨s0,s3⟩;go_simp;try with_reducible rfl)
     try simp only [Act.put,pS2,pS3,pS4]
     refine wpAnyH_done (by kernel_rfl) ?_ _;go_wp2;go_ret2;rw [HX.out];exact ⟨⟨_,m3,rfl,H3.out.ownS 0 rfl⟩,H3.out.base⟩
    by_cases h14:nd.op=14
    ·have HX:=Hd (HOP.out.trans (show opP nd (s::L2)=spreadP s nd.shape nd.a by rw [opP];(repeat rw [if_neg (by omega)]);rw [if_pos h14];rfl));have b1:(nd.op==1)=false:=by simp;omega
     have b2:(nd.op==2)=false:=by simp;omega
     have b3:(nd.op==3)=false:=by simp;omega
     have b13:(nd.op==13)=false:=by simp;omega
     have b14:(nd.op==14)=true:=by simpa using h14
     clear h1 h3 hops h4 h14;have H0:=Hd H.out.drew;have HI0:=Hd (H0.out.oldI HI.out);have HIB:=Hd (H0.out.oldI HL.out.inB);have HIC:=Hd (H0.out.oldI HL.out.inC);have hc0:=H.out.oldCell hab HCA.out;have hl0:0<j:=by omega
     have hl1:(0:Int)<j:=by omega
     go_upto_region 18 with fail
     clear n0 n1 n2 n3 n4 n5 n6 hc0;have i0:=H0.out.oldCell hab HCA.out;have i2:=H0.out.cell 0 2 rfl rfl;have i3:=H0.out.cell 0 3 rfl rfl;have i5:=H0.out.cell 0 5 rfl rfl;refine wp_region_held_drew (S:=(fun w' => w'.cell? a0=some (.slice B0 ns c0)∧w'.cell? ⟨gn,2,none⟩=some (.slice B nb cb)∧w'.cell? ⟨gn,3,none⟩=some (.slice C nc cc))) (by kernel_rfl) ?_ (fun hq_ => ?_)
     ·exact ⟨i0,i2,i3⟩
     refine tW 0 hq_ ?_ ?_ ?_;rotate_left;focus (rintro wq ⟨s0,s2,s3⟩;go_simp;try with_reducible rfl)
     try simp only [Act.put,pS2,pS3,pS4]
     refine tW 1 hq_ ?_ ?_ ?_;rotate_left;focus (rintro wq ⟨s0,s2,s3⟩;go_simp;try with_reducible rfl)
     try simp only [Act.put,pS2,pS3,pS4]
     refine tW 2 hq_ ?_ ?_ ?_;rotate_left;focus (rintro wq ⟨s0,s2,s3⟩;go_simp;try with_reducible rfl)
     try simp only [Act.put,pS2,pS3,pS4]
     refine tW 3 hq_ ?_ ?_ ?_;rotate_left;focus (rintro wq ⟨s0,s2,s3⟩;go_simp;try with_reducible rfl)
     try simp only [Act.put,pS2,pS3,pS4]
     refine tW 4 hq_ ?_ ?_ ?_;rotate_left;focus (rintro wq ⟨s0,s2,s3⟩;go_simp;try with_reducible rfl)
     try simp only [Act.put,pS2,pS3,pS4]
     refine tW 5 hq_ ?_ ?_ ?_;rotate_left;focus (rintro wq ⟨s0,s2,s3⟩;go_simp;try with_reducible rfl)
     try simp only [Act.put,pS2,pS3,pS4]
     refine tW 6 hq_ ?_ ?_ ?_;rotate_left;focus (rintro wq ⟨s0,s2,s3⟩;go_simp;try with_reducible rfl)
     try simp only [Act.put,pS2,pS3,pS4]
     refine e1 7 fun K hK => ?_
     first | (refine effU ?_ ?_;(focus rfl)) | (go_simp;(go_at_call 65;refine (gSpread_any (c:=c0) (co:=cb) (d:=cc) HI0.out HIB.out HIC.out).mono ?_;rintro e3 w3 ⟨⟨v3,m3,rfl,hO3⟩,hb3⟩;have H3:=Hd (H0.out.addOwn hb3 hO3);have m0:=H3.out.oldCell hab HCA.out;have m2:=H3.out.cell 1 2 rfl rfl;have m3c:=H3.out.cell 1 3 rfl rfl;have m5:=H3.out.cell 1 5 rfl rfl;clear hb3 hO3);go_wp2_with fail)
     refine hK.out _ _ ?_ (fun h2q => ?_)
     ·first | with_reducible assumption | (exact ⟨m0,m2,m3c⟩) | assumption
     clear hK K hq_;have hq_:=h2q;clear h2q
     try simp only [Act.put,pS2,pS3,pS4]
     refine tW 8 hq_ ?_ ?_ ?_;rotate_left;focus (rintro wq ⟨s0,s2,s3⟩;go_simp;try with_reducible rfl)
     try simp only [Act.put,pS2,pS3,pS4]
     refine tW 9 hq_ ?_ ?_ ?_;rotate_left;focus (rintro wq ⟨s0,s2,s3⟩;go_simp;try with_reducible rfl)
     try simp only [Act.put,pS2,pS3,pS4]
     refine tW 10 hq_ ?_ ?_ ?_;rotate_left;focus (rintro wq ⟨s0,s2,s3⟩;go_simp;try with_reducible rfl)
     try simp only [Act.put,pS2,pS3,pS4]
     refine tW 11 hq_ ?_ ?_ ?_;rotate_left;focus (rintro wq ⟨s0,s2,s3⟩;go_simp;try with_reducible rfl)
     try simp only [Act.put,pS2,pS3,pS4]
     refine wpAnyH_done (by kernel_rfl) ?_ _;go_wp2;go_ret2;rw [HX.out];exact ⟨⟨_,m3,rfl,H3.out.ownS 0 rfl⟩,H3.out.base⟩
    by_cases h15:nd.op=15
    ·have HX:=Hd (HOP.out.trans (show opP nd (s::L2)=slicedP s nd.a by rw [opP];(repeat rw [if_neg (by omega)]);rw [if_pos h15];rfl));have b1:(nd.op==1)=false:=by simp;omega
     have b2:(nd.op==2)=false:=by simp;omega
     have b3:(nd.op==3)=false:=by simp;omega
     have b13:(nd.op==13)=false:=by simp;omega
     have b14:(nd.op==14)=false:=by simp;omega
     have b15:(nd.op==15)=true:=by simpa using h15
     clear h1 h3 hops h4 h15;have H0:=Hd H.out.drew;have HI0:=Hd (H0.out.oldI HI.out);have HIB:=Hd (H0.out.oldI HL.out.inB);have HIC:=Hd (H0.out.oldI HL.out.inC);have hc0:=H.out.oldCell hab HCA.out;have hl0:0<j:=by omega
     have hl1:(0:Int)<j:=by omega
     go_upto_region 20 with fail
     clear n0 n1 n2 n3 n4 n5 n6 hc0;have i0:=H0.out.oldCell hab HCA.out;have i2:=H0.out.cell 0 2 rfl rfl;have i3:=H0.out.cell 0 3 rfl rfl;have i5:=H0.out.cell 0 5 rfl rfl;refine wp_region_held_drew (S:=(fun w' => w'.cell? a0=some (.slice B0 ns c0)∧w'.cell? ⟨gn,3,none⟩=some (.slice C nc cc))) (by kernel_rfl) ?_ (fun hq_ => ?_)
     ·exact ⟨i0,i3⟩
     refine tW 0 hq_ ?_ ?_ ?_;rotate_left;focus (rintro wq ⟨s0,s3⟩;go_simp;try with_reducible rfl)
     try simp only [Act.put,pS2,pS3,pS4]
     refine tW 1 hq_ ?_ ?_ ?_;rotate_left;focus (rintro wq ⟨s0,s3⟩;go_simp;try with_reducible rfl)
     try simp only [Act.put,pS2,pS3,pS4]
     refine tW 2 hq_ ?_ ?_ ?_;rotate_left;focus (rintro wq ⟨s0,s3⟩;go_simp;try with_reducible rfl)
     try simp only [Act.put,pS2,pS3,pS4]
     refine tW 3 hq_ ?_ ?_ ?_;rotate_left;focus (rintro wq ⟨s0,s3⟩;go_simp;try with_reducible rfl)
     try simp only [Act.put,pS2,pS3,pS4]
     refine tW 4 hq_ ?_ ?_ ?_;rotate_left;focus (rintro wq ⟨s0,s3⟩;go_simp;try with_reducible rfl)
     try simp only [Act.put,pS2,pS3,pS4]
     refine e1 5 fun K hK => ?_
     first | (refine effU ?_ ?_;(focus rfl)) | (go_simp;(go_at_call 66;refine (gSliced_any (c:=c0) HI0.out HIC.out hic HRS.out).mono ?_;rintro e3 w3 ⟨⟨v3,m3,rfl,hO3⟩,hb3⟩;have H3:=Hd (H0.out.addOwn hb3 hO3);have m0:=H3.out.oldCell hab HCA.out;have m2:=H3.out.cell 1 2 rfl rfl;have m3c:=H3.out.cell 1 3 rfl rfl;have m5:=H3.out.cell 1 5 rfl rfl;clear hb3 hO3);go_wp2_with fail)
     refine hK.out _ _ ?_ (fun h2q => ?_)
     ·first | with_reducible assumption | (exact ⟨m0,m3c⟩) | assumption
     clear hK K hq_;have hq_:=h2q;clear h2q
     try simp only [Act.put,pS2,pS3,pS4]
     refine tW 6 hq_ ?_ ?_ ?_;rotate_left;focus (rintro wq ⟨s0,s3⟩;go_simp;try with_reducible rfl)
     try simp only [Act.put,pS2,pS3,pS4]
     refine tW 7 hq_ ?_ ?_ ?_;rotate_left;focus (rintro wq ⟨s0,s3⟩;go_simp;try with_reducible rfl)
     try simp only [Act.put,pS2,pS3,pS4]
     refine tW 8 hq_ ?_ ?_ ?_;rotate_left;focus (rintro wq ⟨s0,s3⟩;go_simp;try with_reducible rfl)
     try simp only [Act.put,pS2,pS3,pS4]
     refine tW 9 hq_ ?_ ?_ ?_;rotate_left;focus (rintro wq ⟨s0,s3⟩;go_simp;try with_reducible rfl)
     try simp only [Act.put,pS2,pS3,pS4]
     refine wpAnyH_done (by kernel_rfl) ?_ _;go_wp2;go_ret2;rw [HX.out];exact ⟨⟨_,m3,rfl,H3.out.ownS 0 rfl⟩,H3.out.base⟩
    by_cases h16:nd.op=16
    ·have HX:=Hd (HOP.out.trans (show opP nd (s::L2)=paddedP s nd.a by rw [opP];(repeat rw [if_neg (by omega)]);rw [if_pos h16];rfl));have b1:(nd.op==1)=false:=by simp;omega
     have b2:(nd.op==2)=false:=by simp;omega
     have b3:(nd.op==3)=false:=by simp;omega
     have b13:(nd.op==13)=false:=by simp;omega
     have b14:(nd.op==14)=false:=by simp;omega
     have b15:(nd.op==15)=false:=by simp;omega
     have b16:(nd.op==16)=true:=by simpa using h16
     clear h1 h3 hops h4 h16;have H0:=Hd H.out.drew;have HI0:=Hd (H0.out.oldI HI.out);have HIB:=Hd (H0.out.oldI HL.out.inB);have HIC:=Hd (H0.out.oldI HL.out.inC);have hc0:=H.out.oldCell hab HCA.out;have hl0:0<j:=by omega
     have hl1:(0:Int)<j:=by omega
     go_upto_region 22 with fail
     clear n0 n1 n2 n3 n4 n5 n6 hc0;have i0:=H0.out.oldCell hab HCA.out;have i2:=H0.out.cell 0 2 rfl rfl;have i3:=H0.out.cell 0 3 rfl rfl;have i5:=H0.out.cell 0 5 rfl rfl;refine wp_region_held_drew (S:=(fun w' => w'.cell? a0=some (.slice B0 ns c0)∧w'.cell? ⟨gn,3,none⟩=some (.slice C nc cc))) (by kernel_rfl) ?_ (fun hq_ => ?_)
     ·exact ⟨i0,i3⟩
     refine tW 0 hq_ ?_ ?_ ?_;rotate_left;focus (rintro wq ⟨s0,s3⟩;go_simp;try with_reducible rfl)
     try simp only [Act.put,pS2,pS3,pS4]
     refine tW 1 hq_ ?_ ?_ ?_;rotate_left;focus (rintro wq ⟨s0,s3⟩;go_simp;try with_reducible rfl)
     try simp only [Act.put,pS2,pS3,pS4]
     refine tW 2 hq_ ?_ ?_ ?_;rotate_left;focus (rintro wq ⟨s0,s3⟩;go_simp;try with_reducible rfl)
     try simp only [Act.put,pS2,pS3,pS4]
     refine tW 3 hq_ ?_ ?_ ?_;rotate_left;focus (rintro wq ⟨s0,s3⟩;go_simp;try with_reducible rfl)
     try simp only [Act.put,pS2,pS3,pS4]
     refine tW 4 hq_ ?_ ?_ ?_;rotate_left;focus (rintro wq ⟨s0,s3⟩;go_simp;try with_reducible rfl)
     try simp only [Act.put,pS2,pS3,pS4]
     refine e1 5 fun K hK => ?_
     first | (refine effU ?_ ?_;(focus rfl)) | (go_simp;(go_at_call 67;refine (gPadded_any (c:=c0) HI0.out HIC.out hic HRS.out).mono ?_;rintro e3 w3 ⟨⟨v3,m3,rfl,hO3⟩,hb3⟩;have H3:=Hd (H0.out.addOwn hb3 hO3);have m0:=H3.out.oldCell hab HCA.out;have m2:=H3.out.cell 1 2 rfl rfl;have m3c:=H3.out.cell 1 3 rfl rfl;have m5:=H3.out.cell 1 5 rfl rfl;clear hb3 hO3);go_wp2_with fail)
     refine hK.out _ _ ?_ (fun h2q => ?_)
     ·first | with_reducible assumption | (exact ⟨m0,m3c⟩) | assumption
     clear hK K hq_;have hq_:=h2q;clear h2q
     try simp only [Act.put,pS2,pS3,pS4]
     refine tW 6 hq_ ?_ ?_ ?_;rotate_left;focus (rintro wq ⟨s0,s3⟩;go_simp;try with_reducible rfl)
     try simp only [Act.put,pS2,pS3,pS4]
     refine tW 7 hq_ ?_ ?_ ?_;rotate_left;focus (rintro wq ⟨s0,s3⟩;go_simp;try with_reducible rfl)
     try simp only [Act.put,pS2,pS3,pS4]
     refine tW 8 hq_ ?_ ?_ ?_;rotate_left;focus (rintro wq ⟨s0,s3⟩;go_simp;try with_reducible rfl)
     try simp only [Act.put,pS2,pS3,pS4]
     refine tW 9 hq_ ?_ ?_ ?_;rotate_left;focus (rintro wq ⟨s0,s3⟩;go_simp;try with_reducible rfl)
     try simp only [Act.put,pS2,pS3,pS4]
     refine wpAnyH_done (by kernel_rfl) ?_ _;go_wp2;go_ret2;rw [HX.out];exact ⟨⟨_,m3,rfl,H3.out.ownS 0 rfl⟩,H3.out.base⟩
    by_cases h18:nd.op=18
    ·have HX:=Hd (HOP.out.trans (show opP nd (s::L2)=foldedP nd.how s nd.a by rw [opP];(repeat rw [if_neg (by omega)]);rw [if_pos h18];rfl));have b1:(nd.op==1)=false:=by simp;omega
     have b2:(nd.op==2)=false:=by simp;omega
     have b3:(nd.op==3)=false:=by simp;omega
     have b13:(nd.op==13)=false:=by simp;omega
     have b14:(nd.op==14)=false:=by simp;omega
     have b15:(nd.op==15)=false:=by simp;omega
     have b16:(nd.op==16)=false:=by simp;omega
     have b17:(nd.op==17)=false:=by simp;omega
     have b18:(nd.op==18)=true:=by simpa using h18
     clear h1 h3 hops h4 h18;have H0:=Hd H.out.drew;have HI0:=Hd (H0.out.oldI HI.out);have HIB:=Hd (H0.out.oldI HL.out.inB);have HIC:=Hd (H0.out.oldI HL.out.inC);have hc0:=H.out.oldCell hab HCA.out;have hl0:0<j:=by omega
     have hl1:(0:Int)<j:=by omega
     go_upto_region 26 with fail
     clear n0 n1 n2 n3 n4 n5 n6 hc0;have i0:=H0.out.oldCell hab HCA.out;have i2:=H0.out.cell 0 2 rfl rfl;have i3:=H0.out.cell 0 3 rfl rfl;have i5:=H0.out.cell 0 5 rfl rfl;refine wp_region_held_drew (S:=(fun w' => w'.cell? a0=some (.slice B0 ns c0)∧w'.cell? ⟨gn,3,none⟩=some (.slice C nc cc)∧w'.cell? ⟨gn,5,none⟩=some (.int .i64 nd.how))) (by kernel_rfl) ?_ (fun hq_ => ?_)
     ·exact ⟨i0,i3,i5⟩
     refine tW 0 hq_ ?_ ?_ ?_;rotate_left;focus (rintro wq ⟨s0,s3,s5⟩;go_simp;try with_reducible rfl)
     try simp only [Act.put,pS2,pS3,pS4]
     refine tW 1 hq_ ?_ ?_ ?_;rotate_left;focus (rintro wq ⟨s0,s3,s5⟩;go_simp;try with_reducible rfl)
     try simp only [Act.put,pS2,pS3,pS4]
     refine tW 2 hq_ ?_ ?_ ?_;rotate_left;focus (rintro wq ⟨s0,s3,s5⟩;go_simp;try with_reducible rfl)
     try simp only [Act.put,pS2,pS3,pS4]
     refine tW 3 hq_ ?_ ?_ ?_;rotate_left;focus (rintro wq ⟨s0,s3,s5⟩;go_simp;try with_reducible rfl)
     try simp only [Act.put,pS2,pS3,pS4]
     refine tW 4 hq_ ?_ ?_ ?_;rotate_left;focus (rintro wq ⟨s0,s3,s5⟩;go_simp;try with_reducible rfl)
     try simp only [Act.put,pS2,pS3,pS4]
     refine tW 5 hq_ ?_ ?_ ?_;rotate_left;focus (rintro wq ⟨s0,s3,s5⟩;go_simp;try with_reducible rfl)
     try simp only [Act.put,pS2,pS3,pS4]
     refine tW 6 hq_ ?_ ?_ ?_;rotate_left;focus (rintro wq ⟨s0,s3,s5⟩;go_simp;try with_reducible rfl)
     try simp only [Act.put,pS2,pS3,pS4]
     refine e1 7 fun K hK => ?_
     first | (refine effU ?_ ?_;(focus rfl)) | (go_simp;(go_at_call 69;refine (gFolded_any (c:=c0) (d:=cc) nd.how HI0.out HIC.out HRS.out).mono ?_;rintro e3 w3 ⟨⟨v3,m3,rfl,hO3⟩,hb3⟩;have H3:=Hd (H0.out.addOwn hb3 hO3);have m0:=H3.out.oldCell hab HCA.out;have m2:=H3.out.cell 1 2 rfl rfl;have m3c:=H3.out.cell 1 3 rfl rfl;have m5:=H3.out.cell 1 5 rfl rfl;clear hb3 hO3);go_wp2_with fail)
     refine hK.out _ _ ?_ (fun h2q => ?_)
     ·first | with_reducible assumption | (exact ⟨m0,m3c,m5⟩) | assumption
     clear hK K hq_;have hq_:=h2q;clear h2q
     try simp only [Act.put,pS2,pS3,pS4]
     refine tW 8 hq_ ?_ ?_ ?_;rotate_left;focus (rintro wq ⟨s0,s3,s5⟩;go_simp;try with_reducible rfl)
     try simp only [Act.put,pS2,pS3,pS4]
     refine tW 9 hq_ ?_ ?_ ?_;rotate_left;focus (rintro wq ⟨s0,s3,s5⟩;go_simp;try with_reducible rfl)
     try simp only [Act.put,pS2,pS3,pS4]
     refine tW 10 hq_ ?_ ?_ ?_;rotate_left;focus (rintro wq ⟨s0,s3,s5⟩;go_simp;try with_reducible rfl)
     try simp only [Act.put,pS2,pS3,pS4]
     refine tW 11 hq_ ?_ ?_ ?_;rotate_left;focus (rintro wq ⟨s0,s3,s5⟩;go_simp;try with_reducible rfl)
     try simp only [Act.put,pS2,pS3,pS4]
     refine wpAnyH_done (by kernel_rfl) ?_ _;go_wp2;go_ret2;rw [HX.out];exact ⟨⟨_,m3,rfl,H3.out.ownS 0 rfl⟩,H3.out.base⟩
    by_cases h20:nd.op=20
    ·have HX:=Hd (HOP.out.trans (show opP nd (s::L2)=windowedP nd.how s nd.a by rw [opP];(repeat rw [if_neg (by omega)]);rw [if_pos h20];rfl));have b1:(nd.op==1)=false:=by simp;omega
     have b2:(nd.op==2)=false:=by simp;omega
     have b3:(nd.op==3)=false:=by simp;omega
     have b13:(nd.op==13)=false:=by simp;omega
     have b14:(nd.op==14)=false:=by simp;omega
     have b15:(nd.op==15)=false:=by simp;omega
     have b16:(nd.op==16)=false:=by simp;omega
     have b17:(nd.op==17)=false:=by simp;omega
     have b18:(nd.op==18)=false:=by simp;omega
     have b19:(nd.op==19)=false:=by simp;omega
     have b20:(nd.op==20)=true:=by simpa using h20
     clear h1 h3 hops h4 h20;have H0:=Hd H.out.drew;have HI0:=Hd (H0.out.oldI HI.out);have HIB:=Hd (H0.out.oldI HL.out.inB);have HIC:=Hd (H0.out.oldI HL.out.inC);have hc0:=H.out.oldCell hab HCA.out;have hl0:0<j:=by omega
     have hl1:(0:Int)<j:=by omega
     go_upto_region 30 with fail
     clear n0 n1 n2 n3 n4 n5 n6 hc0;have i0:=H0.out.oldCell hab HCA.out;have i2:=H0.out.cell 0 2 rfl rfl;have i3:=H0.out.cell 0 3 rfl rfl;have i5:=H0.out.cell 0 5 rfl rfl;refine wp_region_held_drew (S:=(fun w' => w'.cell? a0=some (.slice B0 ns c0)∧w'.cell? ⟨gn,3,none⟩=some (.slice C nc cc)∧w'.cell? ⟨gn,5,none⟩=some (.int .i64 nd.how))) (by kernel_rfl) ?_ (fun hq_ => ?_)
     ·exact ⟨i0,i3,i5⟩
     refine tW 0 hq_ ?_ ?_ ?_;rotate_left;focus (rintro wq ⟨s0,s3,s5⟩;go_simp;try with_reducible rfl)
     try simp only [Act.put,pS2,pS3,pS4]
     refine tW 1 hq_ ?_ ?_ ?_;rotate_left;focus (rintro wq ⟨s0,s3,s5⟩;go_simp;try with_reducible rfl)
     try simp only [Act.put,pS2,pS3,pS4]
     refine tW 2 hq_ ?_ ?_ ?_;rotate_left;focus (rintro wq ⟨s0,s3,s5⟩;go_simp;try with_reducible rfl)
     try simp only [Act.put,pS2,pS3,pS4]
     refine tW 3 hq_ ?_ ?_ ?_;rotate_left;focus (rintro wq ⟨s0,s3,s5⟩;go_simp;try with_reducible rfl)
     try simp only [Act.put,pS2,pS3,pS4]
     refine tW 4 hq_ ?_ ?_ ?_;rotate_left;focus (rintro wq ⟨s0,s3,s5⟩;go_simp;try with_reducible rfl)
     try simp only [Act.put,pS2,pS3,pS4]
     refine tW 5 hq_ ?_ ?_ ?_;rotate_left;focus (rintro wq ⟨s0,s3,s5⟩;go_simp;try with_reducible rfl)
     try simp only [Act.put,pS2,pS3,pS4]
     refine tW 6 hq_ ?_ ?_ ?_;rotate_left;focus (rintro wq ⟨s0,s3,s5⟩;go_simp;try with_reducible rfl)
     try simp only [Act.put,pS2,pS3,pS4]
     refine e1 7 fun K hK => ?_
     first | (refine effU ?_ ?_;(focus rfl)) | (go_simp;(go_at_call 71;refine (gWindowed_any (c:=c0) (d:=cc) nd.how HI0.out HIC.out HRS.out).mono ?_;rintro e3 w3 ⟨⟨v3,m3,rfl,hO3⟩,hb3⟩;have H3:=Hd (H0.out.addOwn hb3 hO3);have m0:=H3.out.oldCell hab HCA.out;have m2:=H3.out.cell 1 2 rfl rfl;have m3c:=H3.out.cell 1 3 rfl rfl;have m5:=H3.out.cell 1 5 rfl rfl;clear hb3 hO3);go_wp2_with fail)
     refine hK.out _ _ ?_ (fun h2q => ?_)
     ·first | with_reducible assumption | (exact ⟨m0,m3c,m5⟩) | assumption
     clear hK K hq_;have hq_:=h2q;clear h2q
     try simp only [Act.put,pS2,pS3,pS4]
     refine tW 8 hq_ ?_ ?_ ?_;rotate_left;focus (rintro wq ⟨s0,s3,s5⟩;go_simp;try with_reducible rfl)
     try simp only [Act.put,pS2,pS3,pS4]
     refine tW 9 hq_ ?_ ?_ ?_;rotate_left;focus (rintro wq ⟨s0,s3,s5⟩;go_simp;try with_reducible rfl)
     try simp only [Act.put,pS2,pS3,pS4]
     refine tW 10 hq_ ?_ ?_ ?_;rotate_left;focus (rintro wq ⟨s0,s3,s5⟩;go_simp;try with_reducible rfl)
     try simp only [Act.put,pS2,pS3,pS4]
     refine tW 11 hq_ ?_ ?_ ?_;rotate_left;focus (rintro wq ⟨s0,s3,s5⟩;go_simp;try with_reducible rfl)
     try simp only [Act.put,pS2,pS3,pS4]
     refine wpAnyH_done (by kernel_rfl) ?_ _;go_wp2;go_ret2;rw [HX.out];exact ⟨⟨_,m3,rfl,H3.out.ownS 0 rfl⟩,H3.out.base⟩
    by_cases h17:nd.op=17
    ·have HX:=Hd (HOP.out.trans (show opP nd (s::L2)=joinedP (s::L2) nd.a by rw [opP];(repeat rw [if_neg (by omega)]);rw [if_pos h17]));have b1:(nd.op==1)=false:=by simp;omega
     have b2:(nd.op==2)=false:=by simp;omega
     have b3:(nd.op==3)=false:=by simp;omega
     have b13:(nd.op==13)=false:=by simp;omega
     have b14:(nd.op==14)=false:=by simp;omega
     have b15:(nd.op==15)=false:=by simp;omega
     have b16:(nd.op==16)=false:=by simp;omega
     have b17:(nd.op==17)=true:=by simpa using h17
     have CC:=gJoined_any (d:=cc) (HLI.out.below H.out.base) hncl (H.out.oldI HL.out.inC) (List.all_eq_true.1 HALL.out);clear h1 h3 hops h4 h17
     go_wp2_with fail
     refine CC.mono ?_;rintro e3 w3 ⟨⟨v3,m3,rfl,hO3⟩,hb3⟩;have H3:=Hd (H.out.addOwn hb3 hO3);clear CC hO3 hb3 n0 n1 n2 n3 n4 n5 n6;go_wp2;go_ret2;rw [HX.out];exact ⟨⟨_,m3,rfl,H3.out.ownS 0 rfl⟩,H3.out.base⟩
    by_cases h19:nd.op=19
    ·have hk:=form_k HF.out (t:=(2,false,true,false,false)) (by rw [takesF];(repeat rw [if_neg (by omega)]);rw [if_pos h19]);obtain ⟨s9,t,hst⟩:=len_2 (L:=s::L2) (by simp only at hk;omega);injection hst with hs9 ht9
     subst hs9;subst ht9;have HX:=Hd (HOP.out.trans (show opP nd [s,t]=multP s t nd.a by rw [opP];(repeat rw [if_neg (by omega)]);rw [if_pos h19];rfl));have b1:(nd.op==1)=false:=by simp;omega
     have b2:(nd.op==2)=false:=by simp;omega
     have b3:(nd.op==3)=false:=by simp;omega
     have b13:(nd.op==13)=false:=by simp;omega
     have b14:(nd.op==14)=false:=by simp;omega
     have b15:(nd.op==15)=false:=by simp;omega
     have b16:(nd.op==16)=false:=by simp;omega
     have b17:(nd.op==17)=false:=by simp;omega
     have b18:(nd.op==18)=false:=by simp;omega
     have b19:(nd.op==19)=true:=by simpa using h19
     have hn2:2≤j:=by have:=HLL.out;simp at this;omega
     obtain ⟨a9,B1,nt,c1,hA9,hab1,hca1,hmc1,hI1⟩:=HLI.out.2.2 1 t rfl;injection hA9 with hA9
     subst hA9;simp [Addr.add] at hca1;have HCB:=Hd hca1;have hntl:=hI1.le;have HI1:=Hd (H.out.drew.oldI hI1);have hq1:=H.out.oldCell (p:=⟨a0.block,a0.off+1,none⟩) hab HCB.out;have hl2:1<j:=by omega
     have hl3:(1:Int)<j:=by omega
     clear h1 h3 hops h4 h19 hk hca1 hI1;have H0:=Hd H.out.drew;have HI0:=Hd (H0.out.oldI HI.out);have HIB:=Hd (H0.out.oldI HL.out.inB);have HIC:=Hd (H0.out.oldI HL.out.inC);have hc0:=H.out.oldCell hab HCA.out;have hl0:0<j:=by omega
     have hl1:(0:Int)<j:=by omega
     go_upto_region 28 with fail
     clear n0 n1 n2 n3 n4 n5 n6 hc0 hq1;have i0:=H0.out.oldCell hab HCA.out;have i1:=H0.out.oldCell (p:=⟨a0.block,a0.off+1,none⟩) hab HCB.out;have i2:=H0.out.cell 0 2 rfl rfl;have i3:=H0.out.cell 0 3 rfl rfl;have i5:=H0.out.cell 0 5 rfl rfl;refine wp_region_held_drew (S:=(fun w' => w'.cell? a0=some (.slice B0 ns c0)∧w'.cell? ⟨a0.block,a0.off+1,none⟩=some (.slice B1 nt c1)∧w'.cell? ⟨gn,3,none⟩=some (.slice C nc cc))) (by kernel_rfl) ?_ (fun hq_ => ?_)
     ·exact ⟨i0,i1,i3⟩
     refine tW 0 hq_ ?_ ?_ ?_;rotate_left;focus (rintro wq ⟨s0,s1,s3⟩;go_simp;try with_reducible rfl)
     try simp only [Act.put,pS2,pS3,pS4]
     refine tW 1 hq_ ?_ ?_ ?_;rotate_left;focus (rintro wq ⟨s0,s1,s3⟩;go_simp;try with_reducible rfl)
     try simp only [Act.put,pS2,pS3,pS4]
     refine tW 2 hq_ ?_ ?_ ?_;rotate_left;focus (rintro wq ⟨s0,s1,s3⟩;go_simp;try with_reducible rfl)
     try simp only [Act.put,pS2,pS3,pS4]
     refine tW 3 hq_ ?_ ?_ ?_;rotate_left;focus (rintro wq ⟨s0,s1,s3⟩;go_simp;try with_reducible rfl)
     try simp only [Act.put,pS2,pS3,pS4]
     refine tW 4 hq_ ?_ ?_ ?_;rotate_left;focus (rintro wq ⟨s0,s1,s3⟩;go_simp;try with_reducible rfl)
     try simp only [Act.put,pS2,pS3,pS4]
     refine tW 5 hq_ ?_ ?_ ?_;rotate_left;focus (rintro wq ⟨s0,s1,s3⟩;go_simp;try with_reducible rfl)
     try simp only [Act.put,pS2,pS3,pS4]
     refine tW 6 hq_ ?_ ?_ ?_;rotate_left;focus (rintro wq ⟨s0,s1,s3⟩;go_simp;try with_reducible rfl)
     try simp only [Act.put,pS2,pS3,pS4]
     refine tW 7 hq_ ?_ ?_ ?_;rotate_left;focus (rintro wq ⟨s0,s1,s3⟩;go_simp;try with_reducible rfl)
     try simp only [Act.put,pS2,pS3,pS4]
     refine e1 8 fun K hK => ?_
     first | (refine effU ?_ ?_;(focus rfl)) | (go_simp;(go_at_call 70;refine (gMult_any HI0.out HI1.out HIC.out hmc hmc1).mono ?_;rintro e3 w3 ⟨⟨v3,m3,rfl,hO3⟩,hb3⟩;have H3:=Hd (H0.out.addOwn hb3 hO3);have m0:=H3.out.oldCell hab HCA.out;have m2:=H3.out.cell 1 2 rfl rfl;have m3c:=H3.out.cell 1 3 rfl rfl;have m5:=H3.out.cell 1 5 rfl rfl;have m1:=H3.out.oldCell (p:=⟨a0.block,a0.off+1,none⟩) hab HCB.out;clear hb3 hO3);go_wp2_with fail)
     refine hK.out _ _ ?_ (fun h2q => ?_)
     ·first | with_reducible assumption | (exact ⟨m0,m1,m3c⟩) | assumption
     clear hK K hq_;have hq_:=h2q;clear h2q
     try simp only [Act.put,pS2,pS3,pS4]
     refine tW 9 hq_ ?_ ?_ ?_;rotate_left;focus (rintro wq ⟨s0,s1,s3⟩;go_simp;try with_reducible rfl)
     try simp only [Act.put,pS2,pS3,pS4]
     refine tW 10 hq_ ?_ ?_ ?_;rotate_left;focus (rintro wq ⟨s0,s1,s3⟩;go_simp;try with_reducible rfl)
     try simp only [Act.put,pS2,pS3,pS4]
     refine tW 11 hq_ ?_ ?_ ?_;rotate_left;focus (rintro wq ⟨s0,s1,s3⟩;go_simp;try with_reducible rfl)
     try simp only [Act.put,pS2,pS3,pS4]
     refine tW 12 hq_ ?_ ?_ ?_;rotate_left;focus (rintro wq ⟨s0,s1,s3⟩;go_simp;try with_reducible rfl)
     try simp only [Act.put,pS2,pS3,pS4]
     refine wpAnyH_done (by kernel_rfl) ?_ _;go_wp2;go_ret2;rw [HX.out];exact ⟨⟨_,m3,rfl,H3.out.ownS 0 rfl⟩,H3.out.base⟩
    have HX:=Hd (HOP.out.trans (show opP nd (s::L2)=commonP (s::L2) by rw [opP];(repeat rw [if_neg (by omega)])));have b1:(nd.op==1)=false:=by simp;omega
    have b2:(nd.op==2)=false:=by simp;omega
    have b3:(nd.op==3)=false:=by simp;omega
    have b13:(nd.op==13)=false:=by simp;omega
    have b14:(nd.op==14)=false:=by simp;omega
    have b15:(nd.op==15)=false:=by simp;omega
    have b16:(nd.op==16)=false:=by simp;omega
    have b17:(nd.op==17)=false:=by simp;omega
    have b18:(nd.op==18)=false:=by simp;omega
    have b19:(nd.op==19)=false:=by simp;omega
    have b20:(nd.op==20)=false:=by simp;omega
    have CC:=gCommon_any (HLI.out.below H.out.base) hncl (Sh.right_iff.1 HRS.out).1;clear h1 h3 hops h4 h13 h14 h15 h16 h17 h18 h19 h20
    go_wp2_with fail
    refine CC.mono ?_;rintro e3 w3 ⟨⟨v3,m3,rfl,hO3⟩,hb3⟩;have H3:=Hd (H.out.addOwn hb3 hO3);clear CC hO3 hb3 n0 n1 n2 n3 n4 n5 n6;go_wp2;go_ret2;rw [HX.out];exact ⟨⟨_,m3,rfl,H3.out.ownS 0 rfl⟩,H3.out.base⟩
end Go.Proofs.Ytnnmplkgenhofaa
