import Derived.Test.YtdcmanhgekjhgaaDoorPba
import Derived.Test.YtdcmanhgekjhgaaDoorPbb
import Derived.Test.YtdcmanhgekjhgaaDoorPbc
set_option maxRecDepth 100000
set_option maxHeartbeats 12800000
namespace Go.Proofs.YtdcmanhgekjhgaaDoor
open Go.RowKit Go.Proofs.Tryd
variable {L:List (List Int)} {nd:a0j}
theorem b9o {op:Int}(h1:4≤op)(h2:op≤20):(a0f op).1=1∨(a0f op).1=2∨(a0f op).1=3∨(a0f op).1 = -1:=by
 by_cases g0:op=4∨op=5
 ·left;rw[a0f];(repeat rw[iN (by omega)]);rw[iP g0]
 by_cases g1:6≤op∧op≤11
 ·right;left;rw[a0f];(repeat rw[iN (by omega)]);rw[iP g1]
 by_cases g2:op=12
 ·right;right;left;rw[a0f];(repeat rw[iN (by omega)]);rw[iP g2]
 by_cases g3:op=13∨op=15
 ·left;rw[a0f];(repeat rw[iN (by omega)]);rw[iP g3]
 by_cases g4:op=14
 ·left;rw[a0f];(repeat rw[iN (by omega)]);rw[iP g4]
 by_cases g5:op=16
 ·left;rw[a0f];(repeat rw[iN (by omega)]);rw[iP g5]
 by_cases g6:op=17
 ·right;right;right;rw[a0f];(repeat rw[iN (by omega)]);rw[iP g6]
 by_cases g7:op=18∨op=20
 ·left;rw[a0f];(repeat rw[iN (by omega)]);rw[iP g7]
 ·right;left;rw[a0f];(repeat rw[iN (by omega)]);rw[iP (by omega)]
theorem c0l (h:a3q nd L.length=true)(hop:4≤nd.op):∃ s L2,L=s::L2:=by
 have h9:=a2y h rfl;have h8:=b9o hop (b5i h).2
 cases L with
 | nil=>exfalso;apply h9;simp only[List.length_nil];omega
 | cons s L2=>exact⟨s,L2,rfl⟩
theorem b8e {w:World}{v:Value}{Al:Option Addr}{nl cl:Nat}(h:a7a w v nd)(hLi:Lils w Al nl L)(hncl:nl≤cl:=by omega):
  Calls prog 58 #[v,.slice Al nl cl] w fun e w'=>(∃ v m,e=.returned (.tuple #[v,.int .i64 (a1f nd L).1])∧OwnS w' w.heap.size 3 v m (a1f nd L).2)∧Below w.heap.size w w':=by
 have HN:=h;obtain⟨A,na,ca,B,nb,cb,C,nc,cc,rfl,hL⟩:=h;replace HN:=Hd HN;have hll:=hLi.1;have hln:=hLi.2.1;have h1:=(Sep.nil w).allocBox w.heap.size 47 [.int .i64 nd.op,.slice A na ca,.slice B nb cb,.slice C nc cc,.int .i64 nd.n,.int .i64 nd.how,.string nd.note] rfl;have HL:=Hd hL;have hib:=hL.ib;have hic:=hL.ic;have hbl:=hL.inB.le;have hcl9:=hL.inC.le;have HLL:=Hd hll;have HLI:=Hd hLi;clear hL hLi hll
 go_enter func58,ntmps58
 go_upto_region 1 with fail
 generalize w.alloc (.cells #[.int .i64 nd.op,.slice A na ca,.slice B nb cb,.slice C nc cc,.int .i64 nd.n,.int .i64 nd.how,.string nd.note] 47)=W at *;generalize hgn:w.heap.size=gn at *;have HGN:=Hd hgn;have H:=Hd h1;clear h1 hgn;obtain⟨n0,n1,n2,n3,n4,n5,n6⟩:=H.cells7 0 rfl;have C1:=c0n (nl:Int) (HN.below H.base)
 cases hf:a3q nd nl with
 | false =>
  rw[hf] at C1;have HX:=Hd (b0q (nd:=nd) (L:=L) (by rw[HLL.out];exact hf))
  go_wp2_with fail
  refine C1.mono ?_;rintro e2 w2 ⟨rfl,hb⟩;replace H:=Hd (H.below hb);clear C1 hf hb n0 n1 n2 n3 n4 n5 n6;go_wp2;go_ret2;rw[HX.out]
  exact⟨⟨_,0,rfl,OwnS.nil_ _ _ _⟩,H.base⟩
 | true =>
  rw[hf] at C1;have HF:=Hd (show a3q nd L.length=true by rw[HLL.out];exact hf)
  go_wp2_with fail
  refine C1.mono ?_;rintro e2 w2 ⟨rfl,hb⟩;replace H:=Hd (H.below hb);clear C1 hf hb n0 n1 n2 n3 n4 n5 n6
  go_wp2_with fail
  go_loopw [15] (fun iv wr=>∃ j:Nat,iv=.int .i64 j∧j≤nl∧(∀(i:Nat) (s:List Int),L[i]?=some s→i<j→Sh.right s=true)∧Sep w wr [.box gn 47 [.int .i64 nd.op,.slice A na ca,.slice B nb cb,.slice C nc cc,.int .i64 nd.n,.int .i64 nd.how,.string nd.note]]) (fun iv _=>nl-(intOf iv).toNat)
  case atStart=>exact⟨0,rfl,by omega,by omega,H⟩
  case round =>
   clear H;obtain⟨j,rfl,hj,hAll,hS⟩:=hrel;have H:=Hd hS;have HA:=Hd hAll;clear hS hAll;by_cases hlt:j<nl
   ·obtain⟨s,hs⟩:∃ s,L[j]?=some s:=gE (by have:=HLL.out;omega);obtain⟨la,Bs,ms,cs,hla,hlb,hcl,hmc,hI⟩:=HLI.out.2.2 j s hs;subst hla;have hcj:=H.oC hcl (a2x hlb);have HSJ:=Hd hs;have CR:=a3c (c:=cs) (H.oldI hI);clear hI hcl hs
    cases hr:Sh.right s with
    | false =>
     rw[hr] at CR;have HX:=Hd (b9h HF HSJ hr);clear hr
     go_wp2_with fail
     refine CR.mono ?_;rintro e3 w3 ⟨rfl,rfl⟩;clear CR;go_wp2;go_ret2;rw[HX.out]
     exact⟨⟨_,0,rfl,OwnS.nil_ _ _ _⟩,H.base⟩
    | true =>
     rw[hr] at CR;have HR:=Hd hr;clear hr
     go_wp2_with fail
     refine CR.mono ?_;rintro e3 w3 ⟨rfl,rfl⟩;clear CR hcj;go_wp2;go_roundw
     case rel=>exact⟨j+1,by go_num,by omega,(fun i s2 hi hi2=>by
      rcases Nat.lt_or_ge i j with hij|hij
      ·exact HA i s2 hi hij
      ·obtain rfl:i=j:=by omega
       obtain rfl:s2=s:=by have:=HSJ.out;rw[hi] at this;injection this
       exact HR),H⟩
     case measure=>simp[intOf];omega
   ·obtain rfl:j=nl:=by omega
    have HALL:=Hd (show L.all Sh.right=true from c3n fun i s hi hi2=>HA.out i s hi (by have:=HLL.out;omega));have HOP:=Hd (c2l HF HALL);have hops:=b5i HF;obtain⟨n0,n1,n2,n3,n4,n5,n6⟩:=H.cells7 0 rfl;by_cases h1:nd.op=1∨nd.op=2
    ·have HX:=Hd (HOP.trans (show opP nd L=ownP nd.shape by rw[opP,iP h1]));have CC:=a8p (c:=cb) (H.oldI HL.inB);rcases h1 with h1|h1
     ·have b1:(nd.op==1)=true:=by simpa using h1
      clear h1 hops
      go_wp2_with fail
      refine CC.mono ?_;rintro e3 w3 ⟨⟨v3,m3,rfl,hO3⟩,hb3⟩;have H3:=Hd (H.addOwn hb3 hO3);clear CC hO3 hb3 n0 n1 n2 n3 n4 n5 n6;go_wp2;go_ret2;rw[HX.out];exact⟨⟨_,m3,rfl,H3.ownS 0 rfl⟩,H3.base⟩
     ·have b2:(nd.op==2)=true:=by simpa using h1
      have b1:(nd.op==1)=false:=by simp;omega
      clear h1 hops
      go_wp2_with fail
      refine CC.mono ?_;rintro e3 w3 ⟨⟨v3,m3,rfl,hO3⟩,hb3⟩;have H3:=Hd (H.addOwn hb3 hO3);clear CC hO3 hb3 n0 n1 n2 n3 n4 n5 n6;go_wp2;go_ret2;rw[HX.out];exact⟨⟨_,m3,rfl,H3.ownS 0 rfl⟩,H3.base⟩
    by_cases h3:nd.op=3
    ·have HX:=Hd (HOP.trans (show opP nd L=a3h nd.shape nd.a by rw[opP,iN h1,iP h3]));have b1:(nd.op==1)=false:=by simp;omega
     have b2:(nd.op==2)=false:=by simp;omega
     have b3:(nd.op==3)=true:=by simpa using h3
     have CC:=b3n (c:=cb) (d:=cc) (H.oldI HL.inB) (H.oldI HL.inC);clear h1 h3 hops
     go_wp2_with fail
     refine CC.mono ?_;rintro e3 w3 ⟨⟨v3,m3,rfl,hO3⟩,hb3⟩;have H3:=Hd (H.addOwn hb3 hO3);clear CC hO3 hb3 n0 n1 n2 n3 n4 n5 n6;go_wp2;go_ret2;rw[HX.out];exact⟨⟨_,m3,rfl,H3.ownS 0 rfl⟩,H3.base⟩
    have h4:4≤nd.op:=by omega
    obtain⟨s,L2,hcons⟩:=c0l HF (by omega);subst hcons;have HRS:=Hd (List.all_eq_true.1 HALL s (by simp));obtain⟨a0,B0,ns,c0,hAl,hab,hca,hmc,hI⟩:=HLI.head;subst hAl;have HI:=Hd hI;have HCA:=Hd hca;have hnsl:=hI.le;clear hI hca;have hn1:1≤j:=by have:=HLL.out;rw[List.length_cons] at this;omega
    by_cases h13:nd.op=13
    ·have HX:=Hd (HOP.trans (show opP nd (s::L2)=a1s s nd.a by rw[opP];(repeat rw[iN (by omega)]);rw[iP h13];rfl));have b1:(nd.op==1)=false:=by simp;omega
     have b2:(nd.op==2)=false:=by simp;omega
     have b3:(nd.op==3)=false:=by simp;omega
     have b13:(nd.op==13)=true:=by simpa using h13
     clear h1 h3 hops h4 h13;have H0:=Hd H.drew;have HI0:=Hd (H0.oldI HI);have HIB:=Hd (H0.oldI HL.inB);have HIC:=Hd (H0.oldI HL.inC);have hc0:=H.oldCell hab HCA.out;have hl0:0<j:=by omega
     have hl1:(0:Int)<j:=by omega
     go_upto_region 16 with fail
     clear n0 n1 n2 n3 n4 n5 n6 hc0;have i0:=H0.oldCell hab HCA.out;have i2:=H0.c 0 2;have i3:=H0.c 0 3;have i5:=H0.c 0 5;refine wp_region_held_drew (S:=(fun w'=>w'.cell? a0=some (.slice B0 ns c0)∧w'.cell? ⟨gn,3,none⟩=some (.slice C nc cc))) (by kernel_rfl) ?_ (fun hq_=>?_)
     ·exact⟨i0,i3⟩
     refine zV 0 hq_ ?_;refine zV 1 hq_ ?_;refine zV 2 hq_ ?_;refine zV 3 hq_ ?_;refine zV 4 hq_ ?_;refine e1 5 fun K hK=>?_
     first|(refine effU ?_ ?_;(focus rfl))|(go_simp;(go_at_call 69;refine(b5p (c:=c0) HI0 HIC hic HRS).mono ?_;rintro e3 w3 ⟨⟨v3,m3,rfl,hO3⟩,hb3⟩;have H3:=Hd (H0.addOwn hb3 hO3);have m0:=H3.oldCell hab HCA.out;have m2:=H3.c 1 2;have m3c:=H3.c 1 3;have m5:=H3.c 1 5;clear hb3 hO3);go_wp2_with fail)
     refine zX hK (fun hq_=>?_) ⟨m0,m3c⟩;refine zV 6 hq_ ?_;refine zV 7 hq_ ?_;refine zV 8 hq_ ?_;refine zV 9 hq_ ?_;refine dN ?_;go_wp2;go_ret2;rw[HX.out];exact⟨⟨_,m3,rfl,H3.ownS 0 rfl⟩,H3.base⟩
    by_cases h14:nd.op=14
    ·have HX:=Hd (HOP.trans (show opP nd (s::L2)=a1l s nd.shape nd.a by rw[opP];(repeat rw[iN (by omega)]);rw[iP h14];rfl));have b1:(nd.op==1)=false:=by simp;omega
     have b2:(nd.op==2)=false:=by simp;omega
     have b3:(nd.op==3)=false:=by simp;omega
     have b13:(nd.op==13)=false:=by simp;omega
     have b14:(nd.op==14)=true:=by simpa using h14
     clear h1 h3 hops h4 h14;have H0:=Hd H.drew;have HI0:=Hd (H0.oldI HI);have HIB:=Hd (H0.oldI HL.inB);have HIC:=Hd (H0.oldI HL.inC);have hc0:=H.oldCell hab HCA.out;have hl0:0<j:=by omega
     have hl1:(0:Int)<j:=by omega
     go_upto_region 18 with fail
     clear n0 n1 n2 n3 n4 n5 n6 hc0;have i0:=H0.oldCell hab HCA.out;have i2:=H0.c 0 2;have i3:=H0.c 0 3;have i5:=H0.c 0 5;refine wp_region_held_drew (S:=(fun w'=>w'.cell? a0=some (.slice B0 ns c0)∧w'.cell? ⟨gn,2,none⟩=some (.slice B nb cb)∧w'.cell? ⟨gn,3,none⟩=some (.slice C nc cc))) (by kernel_rfl) ?_ (fun hq_=>?_)
     ·exact⟨i0,i2,i3⟩
     refine zV 0 hq_ ?_;refine zV 1 hq_ ?_;refine zV 2 hq_ ?_;refine zV 3 hq_ ?_;refine zV 4 hq_ ?_;refine zV 5 hq_ ?_;refine zV 6 hq_ ?_;refine e1 7 fun K hK=>?_
     first|(refine effU ?_ ?_;(focus rfl))|(go_simp;(go_at_call 70;refine(b5o (c:=c0) (co:=cb) (d:=cc) HI0 HIB HIC).mono ?_;rintro e3 w3 ⟨⟨v3,m3,rfl,hO3⟩,hb3⟩;have H3:=Hd (H0.addOwn hb3 hO3);have m0:=H3.oldCell hab HCA.out;have m2:=H3.c 1 2;have m3c:=H3.c 1 3;have m5:=H3.c 1 5;clear hb3 hO3);go_wp2_with fail)
     refine zX hK (fun hq_=>?_) ⟨m0,m2,m3c⟩;refine zV 8 hq_ ?_;refine zV 9 hq_ ?_;refine zV 10 hq_ ?_;refine zV 11 hq_ ?_;refine dN ?_;go_wp2;go_ret2;rw[HX.out];exact⟨⟨_,m3,rfl,H3.ownS 0 rfl⟩,H3.base⟩
    by_cases h15:nd.op=15
    ·have HX:=Hd (HOP.trans (show opP nd (s::L2)=a1r s nd.a by rw[opP];(repeat rw[iN (by omega)]);rw[iP h15];rfl));have b1:(nd.op==1)=false:=by simp;omega
     have b2:(nd.op==2)=false:=by simp;omega
     have b3:(nd.op==3)=false:=by simp;omega
     have b13:(nd.op==13)=false:=by simp;omega
     have b14:(nd.op==14)=false:=by simp;omega
     have b15:(nd.op==15)=true:=by simpa using h15
     clear h1 h3 hops h4 h15;have H0:=Hd H.drew;have HI0:=Hd (H0.oldI HI);have HIB:=Hd (H0.oldI HL.inB);have HIC:=Hd (H0.oldI HL.inC);have hc0:=H.oldCell hab HCA.out;have hl0:0<j:=by omega
     have hl1:(0:Int)<j:=by omega
     go_upto_region 20 with fail
     clear n0 n1 n2 n3 n4 n5 n6 hc0;have i0:=H0.oldCell hab HCA.out;have i2:=H0.c 0 2;have i3:=H0.c 0 3;have i5:=H0.c 0 5;refine wp_region_held_drew (S:=(fun w'=>w'.cell? a0=some (.slice B0 ns c0)∧w'.cell? ⟨gn,3,none⟩=some (.slice C nc cc))) (by kernel_rfl) ?_ (fun hq_=>?_)
     ·exact⟨i0,i3⟩
     refine zV 0 hq_ ?_;refine zV 1 hq_ ?_;refine zV 2 hq_ ?_;refine zV 3 hq_ ?_;refine zV 4 hq_ ?_;refine e1 5 fun K hK=>?_
     first|(refine effU ?_ ?_;(focus rfl))|(go_simp;(go_at_call 71;refine(b5n (c:=c0) HI0 HIC hic HRS).mono ?_;rintro e3 w3 ⟨⟨v3,m3,rfl,hO3⟩,hb3⟩;have H3:=Hd (H0.addOwn hb3 hO3);have m0:=H3.oldCell hab HCA.out;have m2:=H3.c 1 2;have m3c:=H3.c 1 3;have m5:=H3.c 1 5;clear hb3 hO3);go_wp2_with fail)
     refine zX hK (fun hq_=>?_) ⟨m0,m3c⟩;refine zV 6 hq_ ?_;refine zV 7 hq_ ?_;refine zV 8 hq_ ?_;refine zV 9 hq_ ?_;refine dN ?_;go_wp2;go_ret2;rw[HX.out];exact⟨⟨_,m3,rfl,H3.ownS 0 rfl⟩,H3.base⟩
    by_cases h16:nd.op=16
    ·have HX:=Hd (HOP.trans (show opP nd (s::L2)=a1o s nd.a by rw[opP];(repeat rw[iN (by omega)]);rw[iP h16];rfl));have b1:(nd.op==1)=false:=by simp;omega
     have b2:(nd.op==2)=false:=by simp;omega
     have b3:(nd.op==3)=false:=by simp;omega
     have b13:(nd.op==13)=false:=by simp;omega
     have b14:(nd.op==14)=false:=by simp;omega
     have b15:(nd.op==15)=false:=by simp;omega
     have b16:(nd.op==16)=true:=by simpa using h16
     clear h1 h3 hops h4 h16;have H0:=Hd H.drew;have HI0:=Hd (H0.oldI HI);have HIB:=Hd (H0.oldI HL.inB);have HIC:=Hd (H0.oldI HL.inC);have hc0:=H.oldCell hab HCA.out;have hl0:0<j:=by omega
     have hl1:(0:Int)<j:=by omega
     go_upto_region 22 with fail
     clear n0 n1 n2 n3 n4 n5 n6 hc0;have i0:=H0.oldCell hab HCA.out;have i2:=H0.c 0 2;have i3:=H0.c 0 3;have i5:=H0.c 0 5;refine wp_region_held_drew (S:=(fun w'=>w'.cell? a0=some (.slice B0 ns c0)∧w'.cell? ⟨gn,3,none⟩=some (.slice C nc cc))) (by kernel_rfl) ?_ (fun hq_=>?_)
     ·exact⟨i0,i3⟩
     refine zV 0 hq_ ?_;refine zV 1 hq_ ?_;refine zV 2 hq_ ?_;refine zV 3 hq_ ?_;refine zV 4 hq_ ?_;refine e1 5 fun K hK=>?_
     first|(refine effU ?_ ?_;(focus rfl))|(go_simp;(go_at_call 72;refine(b5m (c:=c0) HI0 HIC hic HRS).mono ?_;rintro e3 w3 ⟨⟨v3,m3,rfl,hO3⟩,hb3⟩;have H3:=Hd (H0.addOwn hb3 hO3);have m0:=H3.oldCell hab HCA.out;have m2:=H3.c 1 2;have m3c:=H3.c 1 3;have m5:=H3.c 1 5;clear hb3 hO3);go_wp2_with fail)
     refine zX hK (fun hq_=>?_) ⟨m0,m3c⟩;refine zV 6 hq_ ?_;refine zV 7 hq_ ?_;refine zV 8 hq_ ?_;refine zV 9 hq_ ?_;refine dN ?_;go_wp2;go_ret2;rw[HX.out];exact⟨⟨_,m3,rfl,H3.ownS 0 rfl⟩,H3.base⟩
    by_cases h18:nd.op=18
    ·have HX:=Hd (HOP.trans (show opP nd (s::L2)=a1p nd.how s nd.a by rw[opP];(repeat rw[iN (by omega)]);rw[iP h18];rfl));have b1:(nd.op==1)=false:=by simp;omega
     have b2:(nd.op==2)=false:=by simp;omega
     have b3:(nd.op==3)=false:=by simp;omega
     have b13:(nd.op==13)=false:=by simp;omega
     have b14:(nd.op==14)=false:=by simp;omega
     have b15:(nd.op==15)=false:=by simp;omega
     have b16:(nd.op==16)=false:=by simp;omega
     have b17:(nd.op==17)=false:=by simp;omega
     have b18:(nd.op==18)=true:=by simpa using h18
     clear h1 h3 hops h4 h18;have H0:=Hd H.drew;have HI0:=Hd (H0.oldI HI);have HIB:=Hd (H0.oldI HL.inB);have HIC:=Hd (H0.oldI HL.inC);have hc0:=H.oldCell hab HCA.out;have hl0:0<j:=by omega
     have hl1:(0:Int)<j:=by omega
     go_upto_region 26 with fail
     clear n0 n1 n2 n3 n4 n5 n6 hc0;have i0:=H0.oldCell hab HCA.out;have i2:=H0.c 0 2;have i3:=H0.c 0 3;have i5:=H0.c 0 5;refine wp_region_held_drew (S:=(fun w'=>w'.cell? a0=some (.slice B0 ns c0)∧w'.cell? ⟨gn,3,none⟩=some (.slice C nc cc)∧w'.cell? ⟨gn,5,none⟩=some (.int .i64 nd.how))) (by kernel_rfl) ?_ (fun hq_=>?_)
     ·exact⟨i0,i3,i5⟩
     refine zV 0 hq_ ?_;refine zV 1 hq_ ?_;refine zV 2 hq_ ?_;refine zV 3 hq_ ?_;refine zV 4 hq_ ?_;refine zV 5 hq_ ?_;refine zV 6 hq_ ?_;refine e1 7 fun K hK=>?_
     first|(refine effU ?_ ?_;(focus rfl))|(go_simp;(go_at_call 74;refine(b5k (c:=c0) (d:=cc) nd.how HI0 HIC HRS).mono ?_;rintro e3 w3 ⟨⟨v3,m3,rfl,hO3⟩,hb3⟩;have H3:=Hd (H0.addOwn hb3 hO3);have m0:=H3.oldCell hab HCA.out;have m2:=H3.c 1 2;have m3c:=H3.c 1 3;have m5:=H3.c 1 5;clear hb3 hO3);go_wp2_with fail)
     refine zX hK (fun hq_=>?_) ⟨m0,m3c,m5⟩;refine zV 8 hq_ ?_;refine zV 9 hq_ ?_;refine zV 10 hq_ ?_;refine zV 11 hq_ ?_;refine dN ?_;go_wp2;go_ret2;rw[HX.out];exact⟨⟨_,m3,rfl,H3.ownS 0 rfl⟩,H3.base⟩
    by_cases h20:nd.op=20
    ·have HX:=Hd (HOP.trans (show opP nd (s::L2)=a0t nd.how s nd.a by rw[opP];(repeat rw[iN (by omega)]);rw[iP h20];rfl));have b1:(nd.op==1)=false:=by simp;omega
     have b2:(nd.op==2)=false:=by simp;omega
     have b3:(nd.op==3)=false:=by simp;omega
     have b13:(nd.op==13)=false:=by simp;omega
     have b14:(nd.op==14)=false:=by simp;omega
     have b15:(nd.op==15)=false:=by simp;omega
     have b16:(nd.op==16)=false:=by simp;omega
     have b17:(nd.op==17)=false:=by simp;omega
     have b18:(nd.op==18)=false:=by simp;omega
     have b19:(nd.op==19)=false:=by simp;omega
     have b20:(nd.op==20)=true:=by simpa using h20
     clear h1 h3 hops h4 h20;have H0:=Hd H.drew;have HI0:=Hd (H0.oldI HI);have HIB:=Hd (H0.oldI HL.inB);have HIC:=Hd (H0.oldI HL.inC);have hc0:=H.oldCell hab HCA.out;have hl0:0<j:=by omega
     have hl1:(0:Int)<j:=by omega
     go_upto_region 30 with fail
     clear n0 n1 n2 n3 n4 n5 n6 hc0;have i0:=H0.oldCell hab HCA.out;have i2:=H0.c 0 2;have i3:=H0.c 0 3;have i5:=H0.c 0 5;refine wp_region_held_drew (S:=(fun w'=>w'.cell? a0=some (.slice B0 ns c0)∧w'.cell? ⟨gn,3,none⟩=some (.slice C nc cc)∧w'.cell? ⟨gn,5,none⟩=some (.int .i64 nd.how))) (by kernel_rfl) ?_ (fun hq_=>?_)
     ·exact⟨i0,i3,i5⟩
     refine zV 0 hq_ ?_;refine zV 1 hq_ ?_;refine zV 2 hq_ ?_;refine zV 3 hq_ ?_;refine zV 4 hq_ ?_;refine zV 5 hq_ ?_;refine zV 6 hq_ ?_;refine e1 7 fun K hK=>?_
     first|(refine effU ?_ ?_;(focus rfl))|(go_simp;(go_at_call 76;refine(b2i (c:=c0) (d:=cc) nd.how HI0 HIC HRS).mono ?_;rintro e3 w3 ⟨⟨v3,m3,rfl,hO3⟩,hb3⟩;have H3:=Hd (H0.addOwn hb3 hO3);have m0:=H3.oldCell hab HCA.out;have m2:=H3.c 1 2;have m3c:=H3.c 1 3;have m5:=H3.c 1 5;clear hb3 hO3);go_wp2_with fail)
     refine zX hK (fun hq_=>?_) ⟨m0,m3c,m5⟩;refine zV 8 hq_ ?_;refine zV 9 hq_ ?_;refine zV 10 hq_ ?_;refine zV 11 hq_ ?_;refine dN ?_;go_wp2;go_ret2;rw[HX.out];exact⟨⟨_,m3,rfl,H3.ownS 0 rfl⟩,H3.base⟩
    by_cases h17:nd.op=17
    ·have HX:=Hd (HOP.trans (show opP nd (s::L2)=a0y (s::L2) nd.a by rw[opP];(repeat rw[iN (by omega)]);rw[iP h17]));have b1:(nd.op==1)=false:=by simp;omega
     have b2:(nd.op==2)=false:=by simp;omega
     have b3:(nd.op==3)=false:=by simp;omega
     have b13:(nd.op==13)=false:=by simp;omega
     have b14:(nd.op==14)=false:=by simp;omega
     have b15:(nd.op==15)=false:=by simp;omega
     have b16:(nd.op==16)=false:=by simp;omega
     have b17:(nd.op==17)=true:=by simpa using h17
     have CC:=b5l (d:=cc) (HLI.below H.base) hncl (H.oldI HL.inC) (List.all_eq_true.1 HALL);clear h1 h3 hops h4 h17
     go_wp2_with fail
     refine CC.mono ?_;rintro e3 w3 ⟨⟨v3,m3,rfl,hO3⟩,hb3⟩;have H3:=Hd (H.addOwn hb3 hO3);clear CC hO3 hb3 n0 n1 n2 n3 n4 n5 n6;go_wp2;go_ret2;rw[HX.out];exact⟨⟨_,m3,rfl,H3.ownS 0 rfl⟩,H3.base⟩
    by_cases h19:nd.op=19
    ·have hk:=a2y HF (t:=(2,false,true,false,false)) (by rw[a0f];(repeat rw[iN (by omega)]);rw[iP h19]);obtain⟨s9,t,hst⟩:=c7c (L:=s::L2) (by simp only at hk;omega);injection hst with hs9 ht9
     subst hs9;subst ht9;have HX:=Hd (HOP.trans (show opP nd [s,t]=a8m s t nd.a by rw[opP];(repeat rw[iN (by omega)]);rw[iP h19];rfl));have b1:(nd.op==1)=false:=by simp;omega
     have b2:(nd.op==2)=false:=by simp;omega
     have b3:(nd.op==3)=false:=by simp;omega
     have b13:(nd.op==13)=false:=by simp;omega
     have b14:(nd.op==14)=false:=by simp;omega
     have b15:(nd.op==15)=false:=by simp;omega
     have b16:(nd.op==16)=false:=by simp;omega
     have b17:(nd.op==17)=false:=by simp;omega
     have b18:(nd.op==18)=false:=by simp;omega
     have b19:(nd.op==19)=true:=by simpa using h19
     have hn2:2≤j:=by have:=HLL.out;simp at this;omega
     obtain⟨a9,B1,nt,c1,hA9,hab1,hca1,hmc1,hI1⟩:=HLI.out.2.2 1 t rfl;injection hA9 with hA9
     subst hA9;simp[Addr.add] at hca1;have HCB:=Hd hca1;have hntl:=hI1.le;have HI1:=Hd (H.drew.oldI hI1);have hq1:=H.oC HCB.out hab;have hl2:1<j:=by omega
     have hl3:(1:Int)<j:=by omega
     clear h1 h3 hops h4 h19 hk hca1 hI1;have H0:=Hd H.drew;have HI0:=Hd (H0.oldI HI);have HIB:=Hd (H0.oldI HL.inB);have HIC:=Hd (H0.oldI HL.inC);have hc0:=H.oldCell hab HCA.out;have hl0:0<j:=by omega
     have hl1:(0:Int)<j:=by omega
     go_upto_region 28 with fail
     clear n0 n1 n2 n3 n4 n5 n6 hc0 hq1;have i0:=H0.oldCell hab HCA.out;have i1:=H0.oC HCB.out hab;have i2:=H0.c 0 2;have i3:=H0.c 0 3;have i5:=H0.c 0 5;refine wp_region_held_drew (S:=(fun w'=>w'.cell? a0=some (.slice B0 ns c0)∧w'.cell? ⟨a0.block,a0.off+1,none⟩=some (.slice B1 nt c1)∧w'.cell? ⟨gn,3,none⟩=some (.slice C nc cc))) (by kernel_rfl) ?_ (fun hq_=>?_)
     ·exact⟨i0,i1,i3⟩
     refine zV 0 hq_ ?_;refine zV 1 hq_ ?_;refine zV 2 hq_ ?_;refine zV 3 hq_ ?_;refine zV 4 hq_ ?_;refine zV 5 hq_ ?_;refine zV 6 hq_ ?_;refine zV 7 hq_ ?_;refine e1 8 fun K hK=>?_
     first|(refine effU ?_ ?_;(focus rfl))|(go_simp;(go_at_call 75;refine(c0o HI0 HI1 HIC hmc hmc1).mono ?_;rintro e3 w3 ⟨⟨v3,m3,rfl,hO3⟩,hb3⟩;have H3:=Hd (H0.addOwn hb3 hO3);have m0:=H3.oldCell hab HCA.out;have m2:=H3.c 1 2;have m3c:=H3.c 1 3;have m5:=H3.c 1 5;have m1:=H3.oC HCB.out hab;clear hb3 hO3);go_wp2_with fail)
     refine zX hK (fun hq_=>?_) ⟨m0,m1,m3c⟩;refine zV 9 hq_ ?_;refine zV 10 hq_ ?_;refine zV 11 hq_ ?_;refine zV 12 hq_ ?_;refine dN ?_;go_wp2;go_ret2;rw[HX.out];exact⟨⟨_,m3,rfl,H3.ownS 0 rfl⟩,H3.base⟩
    have HX:=Hd (HOP.trans (show opP nd (s::L2)=a1i (s::L2) by rw[opP];(repeat rw[iN (by omega)])));have b1:(nd.op==1)=false:=by simp;omega
    have b2:(nd.op==2)=false:=by simp;omega
    have b3:(nd.op==3)=false:=by simp;omega
    have b13:(nd.op==13)=false:=by simp;omega
    have b14:(nd.op==14)=false:=by simp;omega
    have b15:(nd.op==15)=false:=by simp;omega
    have b16:(nd.op==16)=false:=by simp;omega
    have b17:(nd.op==17)=false:=by simp;omega
    have b18:(nd.op==18)=false:=by simp;omega
    have b19:(nd.op==19)=false:=by simp;omega
    have b20:(nd.op==20)=false:=by simp;omega
    have CC:=b5j (HLI.below H.base) hncl (Sh.right_iff.1 HRS).1;clear h1 h3 hops h4 h13 h14 h15 h16 h17 h18 h19 h20
    go_wp2_with fail
    refine CC.mono ?_;rintro e3 w3 ⟨⟨v3,m3,rfl,hO3⟩,hb3⟩;have H3:=Hd (H.addOwn hb3 hO3);clear CC hO3 hb3 n0 n1 n2 n3 n4 n5 n6;go_wp2;go_ret2;rw[HX.out];exact⟨⟨_,m3,rfl,H3.ownS 0 rfl⟩,H3.base⟩
end Go.Proofs.YtdcmanhgekjhgaaDoor
