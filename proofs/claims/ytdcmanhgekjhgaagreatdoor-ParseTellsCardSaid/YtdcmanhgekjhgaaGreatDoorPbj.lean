import Derived.Test.YtdcmanhgekjhgaaGreatDoorPbg
import Derived.Test.YtdcmanhgekjhgaaGreatDoorPbh
import Derived.Test.YtdcmanhgekjhgaaGreatDoorPbi
set_option maxRecDepth 100000
set_option maxHeartbeats 12800000
namespace Go.Proofs.YtdcmanhgekjhgaaGreatDoor
open Go.RowKit Go.Proofs.Tryz
variable {Al:Option Addr} {L:List (List Int)} {c cl l n nl:Nat} {nd:a0l} {s:List Int} {us:List Value} {v:Value} {w w0:World}
theorem d4f {op:Int}(h1:4≤op)(h2:op≤20):(a0j op).1=1∨(a0j op).1=2∨(a0j op).1=3∨(a0j op).1 = -1:=by
 by_cases g0:op=4∨op=5
 ·left;rw[a0j];(repeat rw[iN (by omega)]);rw[iP g0]
 by_cases g1:6≤op∧op≤11
 ·right;left;rw[a0j];(repeat rw[iN (by omega)]);rw[iP g1]
 by_cases g2:op=12
 ·right;right;left;rw[a0j];(repeat rw[iN (by omega)]);rw[iP g2]
 by_cases g3:op=13∨op=15
 ·left;rw[a0j];(repeat rw[iN (by omega)]);rw[iP g3]
 by_cases g4:op=14
 ·left;rw[a0j];(repeat rw[iN (by omega)]);rw[iP g4]
 by_cases g5:op=16
 ·left;rw[a0j];(repeat rw[iN (by omega)]);rw[iP g5]
 by_cases g6:op=17
 ·right;right;right;rw[a0j];(repeat rw[iN (by omega)]);rw[iP g6]
 by_cases g7:op=18∨op=20
 ·left;rw[a0j];(repeat rw[iN (by omega)]);rw[iP g7]
 ·right;left;rw[a0j];(repeat rw[iN (by omega)]);rw[iP (by omega)]
theorem d5x (h:a5l nd L.length=true)(hop:4≤nd.op):∃ s L2,L=s::L2:=by
 have h9:=a6z h rfl;have h8:=d4f hop (c8i h).2
 cases L with
 | nil=>exfalso;apply h9;simp only[List.length_nil];omega
 | cons s L2=>exact⟨s,L2,rfl⟩
theorem d2p (h:a6i w v nd)(hLi:Lils w Al nl L)(hncl:nl≤cl:=by omega):
  Calls prog 128 #[v,.slice Al nl cl] w fun e w'=>(∃ v m,e=.returned (.tuple #[v,.int .i64 (a1i nd L).1])∧OwnS w' w.heap.size 3 v m (a1i nd L).2)∧Below w.heap.size w w':=by
 have HN:=h;obtain⟨A,na,ca,B,nb,cb,C,nc,cc,rfl,hL⟩:=h;replace HN:=Hd HN;have hll:=hLi.1;have hln:=hLi.2.1;have h1:=(Sep.nil w).allocBox w.heap.size 49 [.int .i64 nd.op,.slice A na ca,.slice B nb cb,.slice C nc cc,.int .i64 nd.n,.int .i64 nd.how,.string nd.note] rfl;have HL:=Hd hL;have hib:=hL.ib;have hic:=hL.ic;have hbl:=hL.inB.le;have hcl9:=hL.inC.le;have HLL:=Hd hll;have HLI:=Hd hLi;clear hL hLi hll
 go_enter func128,ntmps128
 go_upto_region 1 with fail
 generalize w.alloc (.cells #[.int .i64 nd.op,.slice A na ca,.slice B nb cb,.slice C nc cc,.int .i64 nd.n,.int .i64 nd.how,.string nd.note] 49)=W at *;generalize hgn:w.heap.size=gn at *;have HGN:=Hd hgn;have H:=Hd h1;clear h1 hgn;obtain⟨n0,n1,n2,n3,n4,n5,n6⟩:=H.cells7 0 rfl;have C1:=d5z (nl:Int) (HN.below H.base)
 cases hf:a5l nd nl with
 | false =>
  rw[hf] at C1;have HX:=Hd (b2r (nd:=nd) (L:=L) (by rw[HLL.out];exact hf))
  go_wp2_with fail
  refine C1.mono ?_;rintro e2 w2 ⟨rfl,hb⟩;replace H:=Hd (H.below hb);clear C1 hf hb n0 n1 n2 n3 n4 n5 n6;go_wp2;go_ret2;rw[HX.out]
  exact⟨⟨_,0,rfl,OwnS.nil_ _ _ _⟩,H.base⟩
 | true =>
  rw[hf] at C1;have HF:=Hd (show a5l nd L.length=true by rw[HLL.out];exact hf)
  go_wp2_with fail
  refine C1.mono ?_;rintro e2 w2 ⟨rfl,hb⟩;replace H:=Hd (H.below hb);clear C1 hf hb n0 n1 n2 n3 n4 n5 n6
  go_wp2_with fail
  go_loopw [15] (fun iv wr=>∃ j:Nat,iv=.int .i64 j∧j≤nl∧(∀(i:Nat) (s:List Int),L[i]?=some s→i<j→Sh.right s=true)∧Sep w wr [.box gn 49 [.int .i64 nd.op,.slice A na ca,.slice B nb cb,.slice C nc cc,.int .i64 nd.n,.int .i64 nd.how,.string nd.note]]) (fun iv _=>nl-(intOf iv).toNat)
  case atStart=>exact⟨0,rfl,by omega,by omega,H⟩
  case round =>
   clear H;obtain⟨j,rfl,hj,hAll,hS⟩:=hrel;have H:=Hd hS;have HA:=Hd hAll;clear hS hAll;by_cases hlt:j<nl
   ·obtain⟨s,hs⟩:∃ s,L[j]?=some s:=gE (by have:=HLL.out;omega);obtain⟨la,Bs,ms,cs,hla,hlb,hcl,hmc,hI⟩:=HLI.out.2.2 j s hs;subst hla;have hcj:=H.oC hcl (a1y hlb);have HSJ:=Hd hs;have CR:=a7h (c:=cs) (H.oldI hI);clear hI hcl hs
    cases hr:Sh.right s with
    | false =>
     rw[hr] at CR;have HX:=Hd (c2d HF HSJ hr);clear hr
     go_wp2_with fail
     refine CR.mono ?_;rintro e3 w3 ⟨rfl,rfl⟩;clear CR;go_wp2;go_ret2;rw[HX.out]
     exact⟨⟨_,0,rfl,OwnS.nil_ _ _ _⟩,H.base⟩
    | true =>
     rw[hr] at CR;have HR:=Hd hr;clear hr
     go_wp2_with fail
     refine CR.mono ?_;rintro e3 w3 ⟨rfl,rfl⟩;clear CR hcj;go_wp2;go_roundw
     case rel=>exact⟨j+1,by go_num,by omega,(fun i s2 hi hi2=>by
      rcases Nat.lt_or_ge i j with hij|hij
      ·exact HA i s2 hi hij
      ·obtain rfl:i=j:=by omega
       obtain rfl:s2=s:=by have:=HSJ.out;rw[hi] at this;injection this
       exact HR),H⟩
     case measure=>simp[intOf];omega
   ·obtain rfl:j=nl:=by omega
    have HALL:=Hd (show L.all Sh.right=true from d0e fun i s hi hi2=>HA.out i s hi (by have:=HLL.out;omega));have HOP:=Hd (d8k HF HALL);have hops:=c8i HF;obtain⟨n0,n1,n2,n3,n4,n5,n6⟩:=H.cells7 0 rfl;by_cases h1:nd.op=1∨nd.op=2
    ·have HX:=Hd (HOP.trans (show opP nd L=ownP nd.shape by rw[opP,iP h1]));have CC:=b6i (c:=cb) (H.oldI HL.inB);rcases h1 with h1|h1
     ·have b1:(nd.op==1)=true:=by simpa using h1
      clear h1 hops
      go_wp2_with fail
      refine CC.mono ?_;rintro e3 w3 ⟨⟨v3,m3,rfl,hO3⟩,hb3⟩;have H3:=Hd (H.addOwn hb3 hO3);clear CC hO3 hb3 n0 n1 n2 n3 n4 n5 n6;go_wp2;go_ret2;rw[HX.out];exact⟨⟨_,m3,rfl,H3.ownS 0 rfl⟩,H3.base⟩
     ·have b2:(nd.op==2)=true:=by simpa using h1
      have b1:(nd.op==1)=false:=by simp;omega
      clear h1 hops
      go_wp2_with fail
      refine CC.mono ?_;rintro e3 w3 ⟨⟨v3,m3,rfl,hO3⟩,hb3⟩;have H3:=Hd (H.addOwn hb3 hO3);clear CC hO3 hb3 n0 n1 n2 n3 n4 n5 n6;go_wp2;go_ret2;rw[HX.out];exact⟨⟨_,m3,rfl,H3.ownS 0 rfl⟩,H3.base⟩
    by_cases h3:nd.op=3
    ·have HX:=Hd (HOP.trans (show opP nd L=a7o nd.shape nd.a by rw[opP,iN h1,iP h3]));have b1:(nd.op==1)=false:=by simp;omega
     have b2:(nd.op==2)=false:=by simp;omega
     have b3:(nd.op==3)=true:=by simpa using h3
     have CC:=c5g (c:=cb) (d:=cc) (H.oldI HL.inB) (H.oldI HL.inC);clear h1 h3 hops
     go_wp2_with fail
     refine CC.mono ?_;rintro e3 w3 ⟨⟨v3,m3,rfl,hO3⟩,hb3⟩;have H3:=Hd (H.addOwn hb3 hO3);clear CC hO3 hb3 n0 n1 n2 n3 n4 n5 n6;go_wp2;go_ret2;rw[HX.out];exact⟨⟨_,m3,rfl,H3.ownS 0 rfl⟩,H3.base⟩
    have h4:4≤nd.op:=by omega
    obtain⟨s,L2,hcons⟩:=d5x HF (by omega);subst hcons;have HRS:=Hd (List.all_eq_true.1 HALL s (by simp));obtain⟨a0,B0,ns,c0,hAl,hab,hca,hmc,hI⟩:=HLI.head;subst hAl;have HI:=Hd hI;have HCA:=Hd hca;have hnsl:=hI.le;clear hI hca;have hn1:1≤j:=by have:=HLL.out;rw[List.length_cons] at this;omega
    by_cases h13:nd.op=13
    ·have HX:=Hd (HOP.trans (show opP nd (s::L2)=a5b s nd.a by rw[opP];(repeat rw[iN (by omega)]);rw[iP h13];rfl));have b1:(nd.op==1)=false:=by simp;omega
     have b2:(nd.op==2)=false:=by simp;omega
     have b3:(nd.op==3)=false:=by simp;omega
     have b13:(nd.op==13)=true:=by simpa using h13
     clear h1 h3 hops h4 h13;have H0:=Hd H.drew;have HI0:=Hd (H0.oldI HI);have HIB:=Hd (H0.oldI HL.inB);have HIC:=Hd (H0.oldI HL.inC);have hc0:=H.oldCell hab HCA.out;have hl0:0<j:=by omega
     have hl1:(0:Int)<j:=by omega
     go_upto_region 16 with fail
     clear n0 n1 n2 n3 n4 n5 n6 hc0;have i0:=H0.oldCell hab HCA.out;have i2:=H0.c 0 2;have i3:=H0.c 0 3;have i5:=H0.c 0 5;refine wp_region_held_drew (S:=(fun w'=>w'.cell? a0=some (.slice B0 ns c0)∧w'.cell? ⟨gn,3,none⟩=some (.slice C nc cc))) (by kernel_rfl) ?_ (fun hq_=>?_)
     ·exact⟨i0,i3⟩
     refine zV 0 hq_ ?_;refine zV 1 hq_ ?_;refine zV 2 hq_ ?_;refine zV 3 hq_ ?_;refine zV 4 hq_ ?_;refine e1 5 fun K hK=>?_
     first|(refine effU ?_ ?_;(focus rfl))|(go_simp;(go_at_call 142;refine(c8p (c:=c0) HI0 HIC hic HRS).mono ?_;rintro e3 w3 ⟨⟨v3,m3,rfl,hO3⟩,hb3⟩;have H3:=Hd (H0.addOwn hb3 hO3);have m0:=H3.oldCell hab HCA.out;have m2:=H3.c 1 2;have m3c:=H3.c 1 3;have m5:=H3.c 1 5;clear hb3 hO3);go_wp2_with fail)
     refine zX hK (fun hq_=>?_) ⟨m0,m3c⟩;refine zV 6 hq_ ?_;refine zV 7 hq_ ?_;refine zV 8 hq_ ?_;refine zV 9 hq_ ?_;refine dN ?_;go_wp2;go_ret2;rw[HX.out];exact⟨⟨_,m3,rfl,H3.ownS 0 rfl⟩,H3.base⟩
    by_cases h14:nd.op=14
    ·have HX:=Hd (HOP.trans (show opP nd (s::L2)=a3t s nd.shape nd.a by rw[opP];(repeat rw[iN (by omega)]);rw[iP h14];rfl));have b1:(nd.op==1)=false:=by simp;omega
     have b2:(nd.op==2)=false:=by simp;omega
     have b3:(nd.op==3)=false:=by simp;omega
     have b13:(nd.op==13)=false:=by simp;omega
     have b14:(nd.op==14)=true:=by simpa using h14
     clear h1 h3 hops h4 h14;have H0:=Hd H.drew;have HI0:=Hd (H0.oldI HI);have HIB:=Hd (H0.oldI HL.inB);have HIC:=Hd (H0.oldI HL.inC);have hc0:=H.oldCell hab HCA.out;have hl0:0<j:=by omega
     have hl1:(0:Int)<j:=by omega
     go_upto_region 18 with fail
     clear n0 n1 n2 n3 n4 n5 n6 hc0;have i0:=H0.oldCell hab HCA.out;have i2:=H0.c 0 2;have i3:=H0.c 0 3;have i5:=H0.c 0 5;refine wp_region_held_drew (S:=(fun w'=>w'.cell? a0=some (.slice B0 ns c0)∧w'.cell? ⟨gn,2,none⟩=some (.slice B nb cb)∧w'.cell? ⟨gn,3,none⟩=some (.slice C nc cc))) (by kernel_rfl) ?_ (fun hq_=>?_)
     ·exact⟨i0,i2,i3⟩
     refine zV 0 hq_ ?_;refine zV 1 hq_ ?_;refine zV 2 hq_ ?_;refine zV 3 hq_ ?_;refine zV 4 hq_ ?_;refine zV 5 hq_ ?_;refine zV 6 hq_ ?_;refine e1 7 fun K hK=>?_
     first|(refine effU ?_ ?_;(focus rfl))|(go_simp;(go_at_call 143;refine(c8o (c:=c0) (co:=cb) (d:=cc) HI0 HIB HIC).mono ?_;rintro e3 w3 ⟨⟨v3,m3,rfl,hO3⟩,hb3⟩;have H3:=Hd (H0.addOwn hb3 hO3);have m0:=H3.oldCell hab HCA.out;have m2:=H3.c 1 2;have m3c:=H3.c 1 3;have m5:=H3.c 1 5;clear hb3 hO3);go_wp2_with fail)
     refine zX hK (fun hq_=>?_) ⟨m0,m2,m3c⟩;refine zV 8 hq_ ?_;refine zV 9 hq_ ?_;refine zV 10 hq_ ?_;refine zV 11 hq_ ?_;refine dN ?_;go_wp2;go_ret2;rw[HX.out];exact⟨⟨_,m3,rfl,H3.ownS 0 rfl⟩,H3.base⟩
    by_cases h15:nd.op=15
    ·have HX:=Hd (HOP.trans (show opP nd (s::L2)=a5a s nd.a by rw[opP];(repeat rw[iN (by omega)]);rw[iP h15];rfl));have b1:(nd.op==1)=false:=by simp;omega
     have b2:(nd.op==2)=false:=by simp;omega
     have b3:(nd.op==3)=false:=by simp;omega
     have b13:(nd.op==13)=false:=by simp;omega
     have b14:(nd.op==14)=false:=by simp;omega
     have b15:(nd.op==15)=true:=by simpa using h15
     clear h1 h3 hops h4 h15;have H0:=Hd H.drew;have HI0:=Hd (H0.oldI HI);have HIB:=Hd (H0.oldI HL.inB);have HIC:=Hd (H0.oldI HL.inC);have hc0:=H.oldCell hab HCA.out;have hl0:0<j:=by omega
     have hl1:(0:Int)<j:=by omega
     go_upto_region 20 with fail
     clear n0 n1 n2 n3 n4 n5 n6 hc0;have i0:=H0.oldCell hab HCA.out;have i2:=H0.c 0 2;have i3:=H0.c 0 3;have i5:=H0.c 0 5;refine wp_region_held_drew (S:=(fun w'=>w'.cell? a0=some (.slice B0 ns c0)∧w'.cell? ⟨gn,3,none⟩=some (.slice C nc cc))) (by kernel_rfl) ?_ (fun hq_=>?_)
     ·exact⟨i0,i3⟩
     refine zV 0 hq_ ?_;refine zV 1 hq_ ?_;refine zV 2 hq_ ?_;refine zV 3 hq_ ?_;refine zV 4 hq_ ?_;refine e1 5 fun K hK=>?_
     first|(refine effU ?_ ?_;(focus rfl))|(go_simp;(go_at_call 144;refine(c8n (c:=c0) HI0 HIC hic HRS).mono ?_;rintro e3 w3 ⟨⟨v3,m3,rfl,hO3⟩,hb3⟩;have H3:=Hd (H0.addOwn hb3 hO3);have m0:=H3.oldCell hab HCA.out;have m2:=H3.c 1 2;have m3c:=H3.c 1 3;have m5:=H3.c 1 5;clear hb3 hO3);go_wp2_with fail)
     refine zX hK (fun hq_=>?_) ⟨m0,m3c⟩;refine zV 6 hq_ ?_;refine zV 7 hq_ ?_;refine zV 8 hq_ ?_;refine zV 9 hq_ ?_;refine dN ?_;go_wp2;go_ret2;rw[HX.out];exact⟨⟨_,m3,rfl,H3.ownS 0 rfl⟩,H3.base⟩
    by_cases h16:nd.op=16
    ·have HX:=Hd (HOP.trans (show opP nd (s::L2)=a4p s nd.a by rw[opP];(repeat rw[iN (by omega)]);rw[iP h16];rfl));have b1:(nd.op==1)=false:=by simp;omega
     have b2:(nd.op==2)=false:=by simp;omega
     have b3:(nd.op==3)=false:=by simp;omega
     have b13:(nd.op==13)=false:=by simp;omega
     have b14:(nd.op==14)=false:=by simp;omega
     have b15:(nd.op==15)=false:=by simp;omega
     have b16:(nd.op==16)=true:=by simpa using h16
     clear h1 h3 hops h4 h16;have H0:=Hd H.drew;have HI0:=Hd (H0.oldI HI);have HIB:=Hd (H0.oldI HL.inB);have HIC:=Hd (H0.oldI HL.inC);have hc0:=H.oldCell hab HCA.out;have hl0:0<j:=by omega
     have hl1:(0:Int)<j:=by omega
     go_upto_region 22 with fail
     clear n0 n1 n2 n3 n4 n5 n6 hc0;have i0:=H0.oldCell hab HCA.out;have i2:=H0.c 0 2;have i3:=H0.c 0 3;have i5:=H0.c 0 5;refine wp_region_held_drew (S:=(fun w'=>w'.cell? a0=some (.slice B0 ns c0)∧w'.cell? ⟨gn,3,none⟩=some (.slice C nc cc))) (by kernel_rfl) ?_ (fun hq_=>?_)
     ·exact⟨i0,i3⟩
     refine zV 0 hq_ ?_;refine zV 1 hq_ ?_;refine zV 2 hq_ ?_;refine zV 3 hq_ ?_;refine zV 4 hq_ ?_;refine e1 5 fun K hK=>?_
     first|(refine effU ?_ ?_;(focus rfl))|(go_simp;(go_at_call 145;refine(c8m (c:=c0) HI0 HIC hic HRS).mono ?_;rintro e3 w3 ⟨⟨v3,m3,rfl,hO3⟩,hb3⟩;have H3:=Hd (H0.addOwn hb3 hO3);have m0:=H3.oldCell hab HCA.out;have m2:=H3.c 1 2;have m3c:=H3.c 1 3;have m5:=H3.c 1 5;clear hb3 hO3);go_wp2_with fail)
     refine zX hK (fun hq_=>?_) ⟨m0,m3c⟩;refine zV 6 hq_ ?_;refine zV 7 hq_ ?_;refine zV 8 hq_ ?_;refine zV 9 hq_ ?_;refine dN ?_;go_wp2;go_ret2;rw[HX.out];exact⟨⟨_,m3,rfl,H3.ownS 0 rfl⟩,H3.base⟩
    by_cases h18:nd.op=18
    ·have HX:=Hd (HOP.trans (show opP nd (s::L2)=a4x nd.how s nd.a by rw[opP];(repeat rw[iN (by omega)]);rw[iP h18];rfl));have b1:(nd.op==1)=false:=by simp;omega
     have b2:(nd.op==2)=false:=by simp;omega
     have b3:(nd.op==3)=false:=by simp;omega
     have b13:(nd.op==13)=false:=by simp;omega
     have b14:(nd.op==14)=false:=by simp;omega
     have b15:(nd.op==15)=false:=by simp;omega
     have b16:(nd.op==16)=false:=by simp;omega
     have b17:(nd.op==17)=false:=by simp;omega
     have b18:(nd.op==18)=true:=by simpa using h18
     clear h1 h3 hops h4 h18;have H0:=Hd H.drew;have HI0:=Hd (H0.oldI HI);have HIB:=Hd (H0.oldI HL.inB);have HIC:=Hd (H0.oldI HL.inC);have hc0:=H.oldCell hab HCA.out;have hl0:0<j:=by omega
     have hl1:(0:Int)<j:=by omega
     go_upto_region 26 with fail
     clear n0 n1 n2 n3 n4 n5 n6 hc0;have i0:=H0.oldCell hab HCA.out;have i2:=H0.c 0 2;have i3:=H0.c 0 3;have i5:=H0.c 0 5;refine wp_region_held_drew (S:=(fun w'=>w'.cell? a0=some (.slice B0 ns c0)∧w'.cell? ⟨gn,3,none⟩=some (.slice C nc cc)∧w'.cell? ⟨gn,5,none⟩=some (.int .i64 nd.how))) (by kernel_rfl) ?_ (fun hq_=>?_)
     ·exact⟨i0,i3,i5⟩
     refine zV 0 hq_ ?_;refine zV 1 hq_ ?_;refine zV 2 hq_ ?_;refine zV 3 hq_ ?_;refine zV 4 hq_ ?_;refine zV 5 hq_ ?_;refine zV 6 hq_ ?_;refine e1 7 fun K hK=>?_
     first|(refine effU ?_ ?_;(focus rfl))|(go_simp;(go_at_call 147;refine(c8k (c:=c0) (d:=cc) nd.how HI0 HIC HRS).mono ?_;rintro e3 w3 ⟨⟨v3,m3,rfl,hO3⟩,hb3⟩;have H3:=Hd (H0.addOwn hb3 hO3);have m0:=H3.oldCell hab HCA.out;have m2:=H3.c 1 2;have m3c:=H3.c 1 3;have m5:=H3.c 1 5;clear hb3 hO3);go_wp2_with fail)
     refine zX hK (fun hq_=>?_) ⟨m0,m3c,m5⟩;refine zV 8 hq_ ?_;refine zV 9 hq_ ?_;refine zV 10 hq_ ?_;refine zV 11 hq_ ?_;refine dN ?_;go_wp2;go_ret2;rw[HX.out];exact⟨⟨_,m3,rfl,H3.ownS 0 rfl⟩,H3.base⟩
    by_cases h20:nd.op=20
    ·have HX:=Hd (HOP.trans (show opP nd (s::L2)=a1r nd.how s nd.a by rw[opP];(repeat rw[iN (by omega)]);rw[iP h20];rfl));have b1:(nd.op==1)=false:=by simp;omega
     have b2:(nd.op==2)=false:=by simp;omega
     have b3:(nd.op==3)=false:=by simp;omega
     have b13:(nd.op==13)=false:=by simp;omega
     have b14:(nd.op==14)=false:=by simp;omega
     have b15:(nd.op==15)=false:=by simp;omega
     have b16:(nd.op==16)=false:=by simp;omega
     have b17:(nd.op==17)=false:=by simp;omega
     have b18:(nd.op==18)=false:=by simp;omega
     have b19:(nd.op==19)=false:=by simp;omega
     have b20:(nd.op==20)=true:=by simpa using h20
     clear h1 h3 hops h4 h20;have H0:=Hd H.drew;have HI0:=Hd (H0.oldI HI);have HIB:=Hd (H0.oldI HL.inB);have HIC:=Hd (H0.oldI HL.inC);have hc0:=H.oldCell hab HCA.out;have hl0:0<j:=by omega
     have hl1:(0:Int)<j:=by omega
     go_upto_region 30 with fail
     clear n0 n1 n2 n3 n4 n5 n6 hc0;have i0:=H0.oldCell hab HCA.out;have i2:=H0.c 0 2;have i3:=H0.c 0 3;have i5:=H0.c 0 5;refine wp_region_held_drew (S:=(fun w'=>w'.cell? a0=some (.slice B0 ns c0)∧w'.cell? ⟨gn,3,none⟩=some (.slice C nc cc)∧w'.cell? ⟨gn,5,none⟩=some (.int .i64 nd.how))) (by kernel_rfl) ?_ (fun hq_=>?_)
     ·exact⟨i0,i3,i5⟩
     refine zV 0 hq_ ?_;refine zV 1 hq_ ?_;refine zV 2 hq_ ?_;refine zV 3 hq_ ?_;refine zV 4 hq_ ?_;refine zV 5 hq_ ?_;refine zV 6 hq_ ?_;refine e1 7 fun K hK=>?_
     first|(refine effU ?_ ?_;(focus rfl))|(go_simp;(go_at_call 149;refine(c2y (c:=c0) (d:=cc) nd.how HI0 HIC HRS).mono ?_;rintro e3 w3 ⟨⟨v3,m3,rfl,hO3⟩,hb3⟩;have H3:=Hd (H0.addOwn hb3 hO3);have m0:=H3.oldCell hab HCA.out;have m2:=H3.c 1 2;have m3c:=H3.c 1 3;have m5:=H3.c 1 5;clear hb3 hO3);go_wp2_with fail)
     refine zX hK (fun hq_=>?_) ⟨m0,m3c,m5⟩;refine zV 8 hq_ ?_;refine zV 9 hq_ ?_;refine zV 10 hq_ ?_;refine zV 11 hq_ ?_;refine dN ?_;go_wp2;go_ret2;rw[HX.out];exact⟨⟨_,m3,rfl,H3.ownS 0 rfl⟩,H3.base⟩
    by_cases h17:nd.op=17
    ·have HX:=Hd (HOP.trans (show opP nd (s::L2)=a2p (s::L2) nd.a by rw[opP];(repeat rw[iN (by omega)]);rw[iP h17]));have b1:(nd.op==1)=false:=by simp;omega
     have b2:(nd.op==2)=false:=by simp;omega
     have b3:(nd.op==3)=false:=by simp;omega
     have b13:(nd.op==13)=false:=by simp;omega
     have b14:(nd.op==14)=false:=by simp;omega
     have b15:(nd.op==15)=false:=by simp;omega
     have b16:(nd.op==16)=false:=by simp;omega
     have b17:(nd.op==17)=true:=by simpa using h17
     have CC:=c8l (d:=cc) (HLI.below H.base) hncl (H.oldI HL.inC) (List.all_eq_true.1 HALL);clear h1 h3 hops h4 h17
     go_wp2_with fail
     refine CC.mono ?_;rintro e3 w3 ⟨⟨v3,m3,rfl,hO3⟩,hb3⟩;have H3:=Hd (H.addOwn hb3 hO3);clear CC hO3 hb3 n0 n1 n2 n3 n4 n5 n6;go_wp2;go_ret2;rw[HX.out];exact⟨⟨_,m3,rfl,H3.ownS 0 rfl⟩,H3.base⟩
    by_cases h19:nd.op=19
    ·have hk:=a6z HF (t:=(2,false,true,false,false)) (by rw[a0j];(repeat rw[iN (by omega)]);rw[iP h19]);obtain⟨s9,t,hst⟩:=e5a (L:=s::L2) (by simp only at hk;omega);injection hst with hs9 ht9
     subst hs9;subst ht9;have HX:=Hd (HOP.trans (show opP nd [s,t]=b6e s t nd.a by rw[opP];(repeat rw[iN (by omega)]);rw[iP h19];rfl));have b1:(nd.op==1)=false:=by simp;omega
     have b2:(nd.op==2)=false:=by simp;omega
     have b3:(nd.op==3)=false:=by simp;omega
     have b13:(nd.op==13)=false:=by simp;omega
     have b14:(nd.op==14)=false:=by simp;omega
     have b15:(nd.op==15)=false:=by simp;omega
     have b16:(nd.op==16)=false:=by simp;omega
     have b17:(nd.op==17)=false:=by simp;omega
     have b18:(nd.op==18)=false:=by simp;omega
     have b19:(nd.op==19)=true:=by simpa using h19
     have hn2:2≤j:=by have:=HLL.out;simp at this;omega
     obtain⟨a9,B1,nt,c1,hA9,hab1,hca1,hmc1,hI1⟩:=HLI.out.2.2 1 t rfl;injection hA9 with hA9
     subst hA9;simp[Addr.add] at hca1;have HCB:=Hd hca1;have hntl:=hI1.le;have HI1:=Hd (H.drew.oldI hI1);have hq1:=H.oC HCB.out hab;have hl2:1<j:=by omega
     have hl3:(1:Int)<j:=by omega
     clear h1 h3 hops h4 h19 hk hca1 hI1;have H0:=Hd H.drew;have HI0:=Hd (H0.oldI HI);have HIB:=Hd (H0.oldI HL.inB);have HIC:=Hd (H0.oldI HL.inC);have hc0:=H.oldCell hab HCA.out;have hl0:0<j:=by omega
     have hl1:(0:Int)<j:=by omega
     go_upto_region 28 with fail
     clear n0 n1 n2 n3 n4 n5 n6 hc0 hq1;have i0:=H0.oldCell hab HCA.out;have i1:=H0.oC HCB.out hab;have i2:=H0.c 0 2;have i3:=H0.c 0 3;have i5:=H0.c 0 5;refine wp_region_held_drew (S:=(fun w'=>w'.cell? a0=some (.slice B0 ns c0)∧w'.cell? ⟨a0.block,a0.off+1,none⟩=some (.slice B1 nt c1)∧w'.cell? ⟨gn,3,none⟩=some (.slice C nc cc))) (by kernel_rfl) ?_ (fun hq_=>?_)
     ·exact⟨i0,i1,i3⟩
     refine zV 0 hq_ ?_;refine zV 1 hq_ ?_;refine zV 2 hq_ ?_;refine zV 3 hq_ ?_;refine zV 4 hq_ ?_;refine zV 5 hq_ ?_;refine zV 6 hq_ ?_;refine zV 7 hq_ ?_;refine e1 8 fun K hK=>?_
     first|(refine effU ?_ ?_;(focus rfl))|(go_simp;(go_at_call 148;refine(d6a HI0 HI1 HIC hmc hmc1).mono ?_;rintro e3 w3 ⟨⟨v3,m3,rfl,hO3⟩,hb3⟩;have H3:=Hd (H0.addOwn hb3 hO3);have m0:=H3.oldCell hab HCA.out;have m2:=H3.c 1 2;have m3c:=H3.c 1 3;have m5:=H3.c 1 5;have m1:=H3.oC HCB.out hab;clear hb3 hO3);go_wp2_with fail)
     refine zX hK (fun hq_=>?_) ⟨m0,m1,m3c⟩;refine zV 9 hq_ ?_;refine zV 10 hq_ ?_;refine zV 11 hq_ ?_;refine zV 12 hq_ ?_;refine dN ?_;go_wp2;go_ret2;rw[HX.out];exact⟨⟨_,m3,rfl,H3.ownS 0 rfl⟩,H3.base⟩
    have HX:=Hd (HOP.trans (show opP nd (s::L2)=a3m (s::L2) by rw[opP];(repeat rw[iN (by omega)])));have b1:(nd.op==1)=false:=by simp;omega
    have b2:(nd.op==2)=false:=by simp;omega
    have b3:(nd.op==3)=false:=by simp;omega
    have b13:(nd.op==13)=false:=by simp;omega
    have b14:(nd.op==14)=false:=by simp;omega
    have b15:(nd.op==15)=false:=by simp;omega
    have b16:(nd.op==16)=false:=by simp;omega
    have b17:(nd.op==17)=false:=by simp;omega
    have b18:(nd.op==18)=false:=by simp;omega
    have b19:(nd.op==19)=false:=by simp;omega
    have b20:(nd.op==20)=false:=by simp;omega
    have CC:=c8j (HLI.below H.base) hncl (Sh.right_iff.1 HRS).1;clear h1 h3 hops h4 h13 h14 h15 h16 h17 h18 h19 h20
    go_wp2_with fail
    refine CC.mono ?_;rintro e3 w3 ⟨⟨v3,m3,rfl,hO3⟩,hb3⟩;have H3:=Hd (H.addOwn hb3 hO3);clear CC hO3 hb3 n0 n1 n2 n3 n4 n5 n6;go_wp2;go_ret2;rw[HX.out];exact⟨⟨_,m3,rfl,H3.ownS 0 rfl⟩,H3.base⟩
def b2c (s:List Int):Bool:=decide (s.length≤3)&&s.all b2b&&decide (Sh.pr s≤8)
theorem e1k (G:a1d):a7n G=(b2c G.sizes&&a7v (a0a G.names) G.sizes.length):=rfl
theorem c7a {j:Nat}{x:Int}(h:s[j]?=some x)(hx:x<1∨8<x):b2c s=false:=by
 obtain⟨hj,rfl⟩:=List.getElem?_eq_some_iff.1 h
 cases e:b2c s with
 | false=>rfl
 | true =>
  simp only[b2c,Bool.and_eq_true,decide_eq_true_eq,List.all_eq_true,b2b] at e;obtain⟨⟨h1,h2⟩,_⟩:=e;have:=h2 _ (List.getElem_mem hj);omega
theorem d8p (hl:s.length≤3)(h:∀(i:Nat) (x:Int),s[i]?=some x→1≤x∧x≤8):b2c s=decide (Sh.pr s≤8):=by
 have:s.all b2b=true:=by
  rw[List.all_eq_true];intro x hx;obtain⟨i,hi,e⟩:=List.getElem_of_mem hx;have:=h i x (by rw[List.getElem?_eq_getElem hi,e]);simp[b2b,this]
 simp only[b2c,this,decide_eq_true hl,Bool.true_and]
theorem d2q {A:Option Addr}(h:Ints w A n s):
  Calls prog 101 #[.slice A n c] w fun e w'=>e=.returned (.bool (b2c s))∧w=w':=by
 have HSL:=Hd h.len;have hle:=h.le;by_cases hn:3<n
 ·have d0:decide (3<n)=true:=by simpa using hn
  have HX:=Hd (show b2c s=false by rw[b2c,decide_eq_false (by have:=HSL.out;omega)];rfl);clear h
  go_enter func101,ntmps101
  go_wp2;go_ret;exact⟨a0c HX.symm,rfl⟩
 have d0:decide (3<n)=false:=by simpa using hn
 have hn3:n≤3:=by omega
 go_enter func101,ntmps101
 go_wp2
 go_loop [11,3] (fun iv nv=>∃ j:Nat,iv=.int .i64 j∧nv=.int .i64 (Sh.pr (s.take j))∧j≤n∧(∀(i:Nat) (x:Int),s[i]?=some x→i<j→1≤x∧x≤8)) (fun iv _=>n-(intOf iv).toNat)
 case atStart=>exact⟨0,rfl,rfl,by omega,by omega⟩
 case round =>
  obtain⟨j,rfl,rfl,hj,hAll⟩:=hrel;have HA:=Hd hAll;clear hAll;by_cases hlt:j<n
  ·obtain⟨sa,x,hsA,_,hx,hcx,hfx⟩:=h.at_ (k:=j) hlt;subst hsA;by_cases h1:x<1
   ·have d1:decide (x<1)=true:=by simpa using h1
    have HX:=Hd (c7a hx (by omega));clear hx hfx;go_wp2;go_ret;exact⟨a0c HX.symm,rfl⟩
   have d1:decide (x<1)=false:=by simpa using h1
   by_cases h2:8<x
   ·have d2:decide (8<x)=true:=by simpa using h2
    have HX:=Hd (c7a hx (by omega));clear hx hfx;go_wp2;go_ret;exact⟨a0c HX.symm,rfl⟩
   have d2:decide (8<x)=false:=by simpa using h2
   have hpt:=Sh.pr_take s hx;have HX:=Hd hx
   have hps:∀ k,k≤j+1→0≤Sh.pr (s.take k)∧Sh.pr (s.take k)≤1048576:=fun k hk=>by
    have hm:∀ y∈s.take k,0≤y∧y≤32:=fun y hy=>by
     obtain⟨i,hi,e⟩:=List.getElem_of_mem hy;rw[List.length_take] at hi;have hi2:s[i]?=some y:=by rw[←e,List.getElem_take,List.getElem?_eq_getElem]
     rcases Nat.lt_or_ge i j with hij|hij
     ·have:=HA.out i y hi2 hij;omega
     ·obtain rfl:i=j:=by omega
      have h9:=HX.out;rw[hi2] at h9;injection h9 with h9;omega
    have hl4:(s.take k).length≤4:=by rw[List.length_take];omega
    exact Sh.pr_small _ hm hl4
   obtain⟨hq1,hq2⟩:=hps (j+1) (by omega);obtain⟨hq3,hq4⟩:=hps j (by omega);rw[hpt] at hq1 hq2;obtain⟨P,hP⟩:∃ P,Sh.pr (s.take j)=P:=⟨_,rfl⟩;rw[hP] at hq1 hq2 hq3 hq4 hpt ⊢;have hwp:IntKind.i64.wrap (P*x)=P*x:=IntWalk.i64_in _ ⟨by omega,by omega⟩;have HPT:=Hd hpt;clear hpt hps hP hx hfx;go_wp2;go_round
   case rel=>exact⟨j+1,by go_num,by rw[HPT.out],by omega,fun i y hi hi2=>by
    rcases Nat.lt_or_ge i j with hij|hij
    ·exact HA i y hi hij
    ·obtain rfl:i=j:=by omega
     have h9:=HX.out
     rw[hi] at h9;injection h9 with h9;omega⟩
   case measure=>simp[intOf];omega
  ·obtain rfl:j=n:=by omega
   have HE:=Hd (d8p (s:=s) (by have:=HSL.out;omega) (fun i x hi=>HA.out i x hi (by have:=HSL.out;have:=(lL hi);omega)));rw[List.take_of_length_le (by have:=HSL.out;omega)];obtain⟨P,hP⟩:∃ P,Sh.pr s=P:=⟨_,rfl⟩;rw[hP] at HE ⊢;clear hP;go_wp2;go_ret;exact⟨a0c (by rw[HE.out]),rfl⟩
theorem c6q {t e:TypeId}{i:TypeInfo}{z:Value}{k:Nat}(ht:prog.underlying t=some (.slice e))(hi:prog.info? e=some i)(hz:i.zero=some z)(hk:i.size=k)(hb:i.bytes≤200)(hlc:l≤c)(hc:c≤100000)(w:World):
  (Instr.makeSlice t (.int .i64 l) (.int .i64 c)).run prog w=.ok (.slice (some ⟨w.heap.size,0,none⟩) l c) (w.alloc (.cells (madeCells z.cells (c*k)) e)):=by
 have hbc:i.bytes*c≤200*100000:=Nat.mul_le_mul hb hc;have:=run_make (P:=prog) w t e i z ht hi hz .i64 .i64 l c (by omega) (by omega) (by omega) (by omega);rw[this,hk];simp only[Int.toNat_natCast]
theorem Sep.madeRow {l:List a0e}(h:Sep w0 w l)(e:TypeId)(k n c:Nat)(cs:Array Value)(hs:cs.size=c*k)(hnc:n≤c)(hc:c≤100000):
  Sep w0 (w.alloc (.cells cs e)) (.row e k (.slice (some ⟨w.heap.size,0,none⟩) n c) n (cs.toList.take (n*k))::l):=by
 have hnk:n*k≤c*k:=Nat.mul_le_mul_right k hnc
 refine h.pushNew (h.below ((Below.refl _ _).alloc (Nat.le_refl _) _)) ?_ fun k hk=>by
  have hk:some w.heap.size=some k:=hk;injection hk with hk;omega
 exact⟨by rw[List.length_take,Array.length_toList,hs];omega,.inr ⟨w.heap.size,c,cs,rfl,h.size,heap_alloc_new _ _,hnc,by unfold maxLen;omega,hs,rfl⟩⟩
def lRow (n:Nat):Array Value:=madeCells #[.slice none 0 0] n
theorem b7z (n:Nat):(lRow n).size=n:=size_madeCells _ _
theorem b1y (hlc:l≤c)(hc:c≤100000)(w:World):
  (Instr.makeSlice 44 (.int .i64 l) (.int .i64 c)).run prog w=.ok (.slice (some ⟨w.heap.size,0,none⟩) l c) (w.alloc (.cells (lRow c) 25)):=by
 obtain⟨i,hi,hz,hs,hb⟩:=b3c;have:=c6q underlying44 hi hz hs (by omega) hlc hc w;rw[this,Nat.mul_one];rfl
theorem b9j (hc:c≤100000)(w:World):
  (Instr.makeSlice 44 (.int .i64 0) (.int .i64 c)).run prog w=.ok (.slice (some ⟨w.heap.size,0,none⟩) 0 c) (w.alloc (.cells (lRow c) 25)):=b1y (l:=0) (Nat.zero_le _) hc w
def LilK (w:World) (us:List Value) (L:List (List Int)):Prop:=L.length≤us.length∧∀(j:Nat) (s:List Int),L[j]?=some s→∃ B m c,us[j]?=some (.slice B m c)∧m≤c∧Ints w B m s
theorem e0z (w:World)(us:List Value):LilK w us []:=⟨Nat.zero_le _,fun j s h=>by simp at h⟩
theorem LilK.snoc (h:LilK w us L){B:Option Addr}{m:Nat}(hI:Ints w B m s)(hm:m≤c){q:Nat}(hq:L.length=q)(hu:q<us.length):LilK w (us.set q (.slice B m c)) (L++[s]):=by
 refine⟨by rw[List.length_set,List.length_append,List.length_singleton];omega,fun j x hx=>?_⟩;rcases Nat.lt_or_ge j L.length with hj|hj
 ·rw[List.getElem?_append_left hj] at hx;rw[List.getElem?_set_ne (by omega)];exact h.2 j x hx
 ·rw[List.getElem?_append_right hj] at hx
  have hj' : j=q:=by
   rcases Nat.eq_or_lt_of_le hj with e|e
   ·omega
   ·rw[List.getElem?_eq_none (by simp;omega)] at hx;cases hx
  subst hj';rw[hq,Nat.sub_self] at hx;injection hx with hx;subst hx
  exact⟨B,m,c,by rw[List.getElem?_set_self hu],hm,hI⟩
theorem e2w {l:List a0e}{g:Nat}(h:Sep w0 w l)(i:Nat)(hi:l[i]?=some (.row 25 1 (.slice (some ⟨g,0,none⟩) n c) n us))(hK:LilK w0 us L)(hn:L.length=n)(hn2:n≤90000):Lils w (some ⟨g,0,none⟩) n L:=by
 have hr:w.ownsRow w0.heap.size 25 1 (.slice (some ⟨g,0,none⟩) n c) n us:=h.at_ i hi;refine⟨hn,hn2,fun j x hx=>?_⟩;obtain⟨B,m,cc,hu,hm,hI⟩:=hK.2 j x hx;have hj:j<L.length:=(lL hx);exact⟨⟨g,0,none⟩,B,m,cc,rfl,(World.ownsRow.lt hr g rfl).2,by rw[a4h,hr.cellAt j (by omega),hu],hm,h.oldI hI⟩
noncomputable def b3h (nm:List Int) (acc:List (List Int)) (nd:a0l):Int × List Int :=
 if b7q acc nd.ins=true then
  (if (a1i nd (a2k acc nd.ins)).1=0 then
   (if b3i nm nd (a1i nd (a2k acc nd.ins)).2.length=0 then(0,(a1i nd (a2k acc nd.ins)).2)
   else(b3i nm nd (a1i nd (a2k acc nd.ins)).2.length,[]))
  else((a1i nd (a2k acc nd.ins)).1,[]))
 else(23,[])
theorem c3y (nm:List Int)(acc:List (List Int))(nd:a0l)(l:List a0l):a0m nm acc (nd::l)=if (b3h nm acc nd).1=0 then a0m nm (acc++[(b3h nm acc nd).2]) l else((b3h nm acc nd).1,[]):=by
 rw[a0m,b3h]
 split
 ·split
  ·split
   ·rfl
   ·rfl
  ·rfl
 ·rfl
theorem d6b {nm:ByteArray}{acc:List (List Int)}(hnm:nm.size≤17592186044000)(h:a4r w v nd)(hLi:Lils w Al nl acc)(hq:nd.ins.length≤80000):
  Calls prog 103 #[.string nm,v,.slice Al nl cl] w (a3v w (b3h (a0a nm) acc nd)):=by
 have HN:=h;obtain⟨S,ns,cs,D,nD,cD,E,ne,ce,rfl,hNL⟩:=h;replace HN:=Hd HN;have h1:=(Sep.nil w).allocBox w.heap.size 49 [.int .i64 nd.op,.slice S ns cs,.slice D nD cD,.slice E ne ce,.int .i64 nd.n,.int .i64 nd.how,.string nd.note] rfl;have HNL:=Hd hNL;have HSL:=Hd hNL.inA.len;have hns:ns≤80000:=by have:=HSL.out;omega
 have hln:=hLi.2.1;have HLI:=Hd hLi;have HLL:=Hd hLi.1;obtain⟨nmr,hnmr⟩:∃ r,a0a nm=r:=⟨_,rfl⟩;have HNM:=Hd hnmr;have HNT:=Hd hNL.note;have HNZ:=Hd hnm;rw[hnmr];clear hNL hLi hq hnmr hnm
 go_enter func103,ntmps103
 go_upto_region 1 with fail
 generalize w.alloc (.cells #[.int .i64 nd.op,.slice S ns cs,.slice D nD cD,.slice E ne ce,.int .i64 nd.n,.int .i64 nd.how,.string nd.note] 49)=W at *;generalize hgn:w.heap.size=gn at *;have HGN:=Hd hgn;have H:=Hd h1;clear h1 hgn;obtain⟨n0,n1,n2,n3,n4,n5,n6⟩:=H.cells7 0 rfl;have hmk:=b1y (l:=ns) (c:=ns) (Nat.le_refl _) (by omega);have h2:=H.madeRow 25 1 ns ns (lRow ns) (by rw[b7z,Nat.mul_one]) (Nat.le_refl _) (by omega)
 go_upto_region 2 with fail
 generalize W.alloc (.cells (lRow ns) 25)=W2 at *;generalize hgr:W.heap.size=gr at *;have HGR:=Hd hgr;replace H:=Hd h2;clear h2 hmk hgr n0 n1 n2 n3 n4 n5 n6;obtain⟨u0,hu0⟩:∃ u,(lRow ns).toList.take (ns*1)=u:=⟨_,rfl⟩;have HU0:=Hd (show u0.length=ns by rw[←hu0,List.length_take,Array.length_toList,b7z];omega);rw[hu0] at H;clear hu0;have n1:=H.c 1 1
 go_wp2_with fail
 clear n1
 go_loopw [23] (fun iv wr=>∃(q:Nat) (us:List Value),iv=.int .i64 q∧q≤ns∧us.length=ns∧(∀(i:Nat) (x:Int),nd.ins[i]?=some x→i<q→0≤x∧x<acc.length)∧LilK w us (a2k acc (nd.ins.take q))∧Sep w wr [.row 25 1 (.slice (some ⟨gr,0,none⟩) ns ns) ns us,.box gn 49 [.int .i64 nd.op,.slice S ns cs,.slice D nD cD,.slice E ne ce,.int .i64 nd.n,.int .i64 nd.how,.string nd.note]]) (fun iv _=>ns-(intOf iv).toNat)
 case atStart=>exact⟨0,u0,rfl,by omega,HU0,by omega,e0z _ _,H⟩
 case round =>
  clear H;obtain⟨q,us,rfl,hq,hul,hAll,hK,hS⟩:=hrel;have H:=Hd hS;have HK:=Hd hK;have HA:=Hd hAll;have HUL:=Hd hul;clear hS hK hAll hul;by_cases hlq:q<ns
  ·obtain⟨sa,x,hsA,_,hx,hcx,_⟩:=(H.oldI HNL.inA).at_ (k:=q) hlq;subst hsA;have HX:=Hd hx;have HBAD:=Hd (show ¬(0≤x∧x<acc.length)→b3h nmr acc nd=(23,[]) from fun h=>by rw[b3h,iN];rw[b7r HX.out h];simp);clear hx;by_cases h1:x<0
   ·have d1:decide (x<0)=true:=by simpa using h1
    have HQ:=Hd (HBAD (by omega));clear HBAD;go_wp2;go_ret2;exact a0i HQ H.base
   have d1:decide (x<0)=false:=by simpa using h1
   obtain⟨xx,rfl⟩:=eZ (by omega:0≤x);by_cases h2:nl≤xx
   ·have d2:decide (nl≤xx)=true:=by simpa using h2
    have HQ:=Hd (HBAD (by have:=HLL.out;omega));clear HBAD;go_wp2;go_ret2;exact a0i HQ H.base
   have d2:decide (nl≤xx)=false:=by simpa using h2
   clear HBAD;obtain⟨s,hs⟩:∃ s,acc[xx]?=some s:=gE (by have:=HLL.out;omega);obtain⟨la,B5,m5,c5,hAl,hlb,hcl,hmc,hI5⟩:=HLI.out.2.2 xx s hs;subst hAl;have hcy:=H.oC hcl (a1y hlb);obtain⟨u9,hu9⟩:∃ u,us[q]?=some u:=gE (by have:=HUL.out;omega);have hcq:=H.cellRow 0 rfl hu9;have hfq:=H.frozenRow 0 rfl q;have HST:=Hd (H.setRow 0 rfl q (.slice B5 m5 c5))
   have HK2:=Hd (show LilK w (us.set q (.slice B5 m5 c5)) (a2k acc (nd.ins.take (q+1))) by
    have he:a2k acc (nd.ins.take (q+1))=a2k acc (nd.ins.take q)++[s]:=by
     rw[List.take_add_one,HX.out,a2k,a2k,List.map_append];simp[List.getD_eq_getElem?_getD,hs]
    rw[he]
    exact HK.snoc hI5 hmc (by rw[a2k,List.length_map,List.length_take];have:=HSL.out;omega) (by have:=HUL.out;omega))
   have hxn:xx<nl:=by omega
   clear hs hcl hI5 hu9;go_wp2;go_roundw
   case rel=>exact⟨q+1,_,by go_num,by omega,by rw[List.length_set];exact HUL,fun i y hi hi2=>by
    rcases Nat.lt_or_ge i q with hij|hij
    ·exact HA i y hi hij
    ·obtain rfl:i=q:=by omega
     have h9:=HX.out
     rw[hi] at h9;injection h9 with h9;have:=HLL.out;omega,HK2,HST⟩
   case measure=>simp[intOf];omega
  ·obtain rfl:q=ns:=by omega
   have HIN:=Hd (show b7q acc nd.ins=true from b4j fun i x hi=>HA.out i x hi (by have:=HSL.out;have:=(lL hi);omega));have hK9:=HK.out;rw[List.take_of_length_le (by have:=HSL.out;omega)] at hK9;have hLi:=e2w H 0 rfl hK9 (by rw[a2k,List.length_map];exact HSL) (by omega);have CS:=d2p (cl:=q) (a4r.wide (show a4r wr (.agg #[.int .i64 nd.op,.slice S q cs,.slice D nD cD,.slice E ne ce,.int .i64 nd.n,.int .i64 nd.how,.string nd.note]) nd from HN.below H.base)) hLi;obtain⟨⟨e5,s5⟩,hR⟩:∃ r,a1i nd (a2k acc nd.ins)=r:=⟨_,rfl⟩;rw[hR] at CS;have HR:=Hd hR;clear hLi hR hK9;obtain⟨n0,n1,n2,n3,n4,n5,n6⟩:=H.cells7 1 rfl
   go_wp2_with fail
   refine CS.mono ?_;rintro e4 w4 ⟨⟨v5,m5,rfl,hO⟩,hb4⟩;clear CS n0 n1 n2 n3 n4 n5 n6;replace hO:OwnS w4 _ 3 v5 m5 s5:=hO;obtain⟨A5,c5,rfl,hmc5,_,_⟩:=hO.form;have HML:=Hd hO.len;replace H:=Hd (H.addOwn hb4 hO);clear hO hb4;by_cases he:e5=0
   ·subst he;have n6:=H.c 2 6;have CN:=c6a (w:=w4) (m5:Int) HNZ HNT;rw[HNM.out] at CN;obtain⟨e6,hE⟩:∃ e6,b3i nmr nd m5=e6:=⟨_,rfl⟩;have HE6:=Hd hE;unfold b3i at hE;rw[hE] at CN;clear hE
    go_wp2_with fail
    refine CN.mono ?_;rintro e8 w8 ⟨⟨v8,m8,rfl,_⟩,hb8⟩;replace H:=Hd (H.below hb8);clear CN hb8 n6;by_cases he6:e6=0
    ·subst he6;have HQ:=Hd (show b3h nmr acc nd=(0,s5) by rw[b3h,iP HIN.out,HR.out,iP rfl,HML.out,HE6.out,iP rfl]);go_wp2;go_ret2;exact a3k HQ (H.ownS 0 rfl) H.base
    ·have dE:(e6 != 0)=true:=by simpa using he6
     have HQ:=Hd (show b3h nmr acc nd=(e6,[]) by rw[b3h,iP HIN.out,HR.out,iP rfl,HML.out,HE6.out,iN he6]);clear he6;go_wp2;go_ret2;exact a0i HQ H.base
   ·have dE:(e5 != 0)=true:=by simpa using he
    have HQ:=Hd (show b3h nmr acc nd=(e5,[]) by rw[b3h,iP HIN.out,HR.out,iN he]);clear he;go_wp2;go_ret2;exact a0i HQ H.base
end Go.Proofs.YtdcmanhgekjhgaaGreatDoor
