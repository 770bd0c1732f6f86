import Derived.Test.YtajhdeddgdhccaaGreatDoorPbs
set_option maxRecDepth 100000
set_option maxHeartbeats 12800000
namespace Go.Proofs.YtajhdeddgdhccaaGreatDoor
open Go.RowKit Go.Proofs.Tryz
variable {A Al:Option Addr} {L:List (List Int)} {a c cl g i n nl:Nat} {l:List a0i} {s xs:List Int} {w w0:World}
noncomputable def b1q (s t:List Int) (j:Nat):Bool:=decide ((a1a (ndV 19 [0,1] [] [(j:Int)] 0 0) [s,t]).1=0)&&decide (Sh.size (a1a (ndV 19 [0,1] [] [(j:Int)] 0 0) [s,t]).2≤300)
noncomputable def kDot (xs:List Int) (L:List (List Int)) (s:List Int) (q:Nat):Nat→Nat→Nat→a0p × Nat
 | 0,_,a=>(ndV 5 [(q:Int)] [] [] 0 0,a)
 | m+1,k,a =>
  if b1q s (L.getD ((k+(tv xs a 3).toNat) % L.length) []) 0=true then(ndV 19 [(q:Int),(((k+(tv xs a 3).toNat) % L.length:Nat):Int)] [] [0] 0 0,ta xs a 3)
  else if b1q s (L.getD ((k+(tv xs a 3).toNat) % L.length) []) 1=true then(ndV 19 [(q:Int),(((k+(tv xs a 3).toNat) % L.length:Nat):Int)] [] [1] 0 0,ta xs a 3)
  else kDot xs L s q m (k+1) (ta xs a 3)
theorem d6d {B C:Option Addr}{m m' c':Nat}{t:List Int}(hb:g<w.heap.size)(h0:w.cell? ⟨g,0,none⟩=some (.slice B m c))(h1:w.cell? ⟨g,1,none⟩=some (.slice C m' c'))(hc:m≤c)(hc' : m' ≤ c')(hI:Ints w B m s)(hJ:Ints w C m' t):Lils w (some ⟨g,0,none⟩) 2 [s,t] :=
 ⟨rfl,by omega,fun j x hx=>by
  match j,hx with
  | 0,hx=>simp at hx;subst hx;exact⟨_,B,m,c,rfl,hb,by rw[a2h];exact h0,hc,hI⟩
  | 1,hx=>simp at hx;subst hx;exact⟨_,C,m', c', rfl,hb,by rw[a2h];exact h1,hc', hJ⟩
  | j+2,hx=>simp at hx⟩
theorem d6a (q:Nat)(hs:L[q]?=some s)(H:Sep w0 w l)(hi:l[i]?=some (TB g A n c a))(hI:Ints w0 A n xs)(ha:a≤n)(hL:a5l w0 l i g A n c Al nl L):
  Calls prog 41 #[.pointer (some ⟨g,0,none⟩),.slice Al nl cl,.int .i64 q] w (a2m w0 l i g A n c (kDot xs L s q nl 0 a)):=by
 obtain⟨KS,hKS⟩:∃ q0,kDot xs L s q nl 0 a=q0:=⟨_,rfl⟩;rw[hKS];have HKS:=Hd hKS;clear hKS;have HXL:=Hd hI.len;have HI:=Hd hI;have hnle:=hI.le;have hll:=hL.1;have hln:=hL.2.1;have HLL:=Hd hll;have HLK:=Hd hL;have HK:Hid (KT l i (TB g A n c a) l):=Hd ⟨hi,fun _=>rfl⟩;clear hll;have h1:=(((H.allocBox w.heap.size 37 zN rfl).addNil 3).addNil 3).addNil 3
 go_enter func41,ntmps41
 go_upto_region 1 with fail
 generalize w.alloc (.cells zA 37)=W at *;generalize w.heap.size=gr at *;clear H hi hI hL;have H:Hid (Sep w0 W ([oN,oN,oN,.box gr 37 zN]++l)):=Hd h1;clear h1;have hnl:0<nl:=by have h8:L.length=nl:=HLL.out;have:=(lL hs);omega
 have hqn:q<nl:=by have h8:L.length=nl:=HLL.out;have:=(lL hs);omega
 have HS0:=Hd hs;clear hs;obtain⟨la,Bs,ms,cap,hAl,hmc,hst⟩:=HLK.out.2.2 q s HS0;subst hAl;have HST:=Hd hst;obtain⟨hlb,hcl,hIs⟩:=hst W a l HK H.rest_;have HSL:=Hd hIs.len;clear hst hIs hlb
 go_wp2_with fail
 clear hcl
 go_loopw [8] (fun kv wr=>∃(k a9:Nat) (l9:List a0i),kv=.int .i64 k∧k≤nl∧a9≤n∧kDot xs L s q (nl-k) k a9=KS∧KT l i (TB g A n c a9) l9∧Sep w0 wr ([oN,oN,oN,.box gr 37 zN]++l9)) (fun kv _=>nl-(intOf kv).toNat)
 case atStart=>exact⟨0,a,l,rfl,by omega,ha,HKS,HK,H⟩
 case round =>
  clear H HK;obtain⟨k,a9,l9,rfl,hj,ba9,hq,hK,hS⟩:=hrel;have H:=Hd hS;have HK:=Hd hK;have HQ:=Hd hq;clear hS hK hq;by_cases hlt:k<nl
  ·obtain⟨m,hm⟩:∃ m,nl-k=m+1:=⟨nl-k-1,by omega⟩;have HM:=Hd (show nl-(k+1)=m by omega);have HQD:=Hd (show kDot xs L s q (m+1) k a9=KS by rw[←hm];exact HQ);clear hm
   go_wp2_with fail
   refine(a0s (3) H HK HI ba9 (by omega) ⟨by omega,by omega⟩).mono ?_;clear H HK;rintro e21 w21 ⟨r21,a21,l21,rfl,HR21,br21,HA21,ba21,HK,H⟩;obtain⟨b,hb⟩:∃ b,(k+r21) % nl=b:=⟨_,rfl⟩;have hbn:b<nl:=by rw[←hb];exact Nat.mod_lt _ hnl
   have HBI:=Hd (show((k:Int)+(r21:Int)) % (nl:Int)=(b:Int) by rw[←hb];simp);have hn0:¬(nl:Int)=0:=by omega
   have hmod0:(0:Int)≤(k:Int)+(r21:Int):=by omega
   have hbn2:(k+r21) % nl<nl:=by rw[hb];exact hbn
   have hB0:(0:Int)≤((k:Int)+(r21:Int)) % (nl:Int):=Int.emod_nonneg _ hn0;have hB1:((k:Int)+(r21:Int)) % (nl:Int)<(nl:Int):=Int.emod_lt_of_pos _ (by omega);obtain⟨t,ht⟩:∃ t,L[b]?=some t:=gE (by have h8:L.length=nl:=HLL.out;omega);have HGT:=Hd (show L.getD b []=t by rw[gD,ht];rfl);have HBB:=Hd hb;obtain⟨lb,Bt,mt,capt,hAl,hmct,hstt⟩:=HLK.out.2.2 b t ht;injection hAl with hAl
   subst hAl;have HTT:=Hd hstt;clear hstt ht hb
   go_wp2_with fail
   go_loopw [10] (fun nv wr=>∃ j:Nat,nv=.int .i64 j∧j≤2∧(∀ e:Nat,e<j→b1q s t e=false)∧Sep w0 wr ([oN,oN,oN,.box gr 37 zN]++l21)) (fun nv _=>2-(intOf nv).toNat)
   case atStart=>exact⟨0,rfl,by omega,by omega,H⟩
   case round =>
    clear H;obtain⟨j,rfl,hj2,hno,hS⟩:=hrel;have H:=Hd hS;have HNO:=Hd hno;clear hS hno;by_cases hl2:j<2
    ·have dj:decide ((j:Int)<2)=true:=by simp;omega
     replace H:=Hd (H.litP 3 #[.int .i64 ((j:Int))] [((j:Int))] 1 rfl (by first|(simp[a1d];done)|(simp[a1d];omega)));replace H:Hid (Sep w0 ((wr.alloc (.cells #[.int .i64 ((j:Int))] 3)).alloc (.cells #[.int .i64 0,.int .i64 1] 3)) ([.own 3 (.slice (some ⟨wr.heap.size+1,0,none⟩) 2 2) 2 [0,1],.own 3 (.slice (some ⟨wr.heap.size,0,none⟩) 1 1) 1 [((j:Int))],oN,oN,oN,.box gr 37 zN]++l21)):=Hd (H.lit 3 #[.int .i64 0,.int .i64 1] [0,1] 2 (wr.heap.size+1) (by rw[a1k]) rfl (by decide));have HA:=Hd (HTT _ _ _ HK H.rest_);have hct:=HA.out.2.1;rw[←HBB.out] at hct;have H2:Hid (Sep w0 (((wr.alloc (.cells #[.int .i64 ((j:Int))] 3)).alloc (.cells #[.int .i64 0,.int .i64 1] 3)).alloc (.cells #[.slice Bs ms cap,.slice Bt mt capt] 23)) ([.box (wr.heap.size+1+1) 23 [.slice Bs ms cap,.slice Bt mt capt],.own 3 (.slice (some ⟨wr.heap.size+1,0,none⟩) 2 2) 2 [0,1],.own 3 (.slice (some ⟨wr.heap.size,0,none⟩) 1 1) 1 [((j:Int))],oN,oN,oN,.box gr 37 zN]++l21)):=Hd (H.allocBox (wr.heap.size+1+1) 23 [.slice Bs ms cap,.slice Bt mt capt] (by simp));have hLi:=d6d (H2.blockLt 0 rfl).2 (H2.c 0 0) (H2.c 0 1) hmc hmct (HST _ _ _ HK H2.rest_).2.2 (HTT _ _ _ HK H2.rest_).2.2;have hNd:a4x (((wr.alloc (.cells #[.int .i64 ((j:Int))] 3)).alloc (.cells #[.int .i64 0,.int .i64 1] 3)).alloc (.cells #[.slice Bs ms cap,.slice Bt mt capt] 23)) (.agg #[.int .i64 19,.slice (some ⟨wr.heap.size+1,0,none⟩) 2 2,.slice none 0 0,.slice (some ⟨wr.heap.size,0,none⟩) 1 1,.int .i64 0,.int .i64 0,.string ⟨#[]⟩]) (ndV 19 [0,1] [] [(j:Int)] 0 0):=⟨_,_,_,_,_,_,_,_,_,rfl,⟨Nat.le_refl _,Nat.le_refl _,Nat.le_refl _,(H2.ownInts 1 rfl).2.2,Ints.nil_ _ _,(H2.ownInts 2 rfl).2.2,⟨by simp only[ndV];decide,by simp only[ndV];decide⟩,⟨by simp only[ndV];decide,by simp only[ndV];decide⟩,⟨by simp only[ndV];decide,by simp only[ndV];decide⟩,by simp only[ndV];decide⟩⟩;have CS:=a6l (cl:=2) hNd.wide hLi;obtain⟨⟨e5,s5⟩,hR⟩:∃ r,a1a (ndV 19 [0,1] [] [(j:Int)] 0 0) [s,t]=r:=⟨_,rfl⟩;rw[hR] at CS;have HHIT:=Hd (show b1q s t j=(decide (e5=0)&&decide (Sh.size s5≤300)) by rw[b1q,hR]);clear hLi hNd hR
     go_wp2_with fail
     refine CS.mono ?_;rintro e4 w4 ⟨⟨v5,m5,rfl,hO⟩,hb4⟩;clear CS hct;replace hO:OwnS w4 _ 3 v5 m5 s5:=hO;obtain⟨A5,c5,hv5,hmc5,_,_⟩:=hO.form;subst hv5;have h9:=H2.addOwn hb4 hO;replace H:Hid (Sep w0 w4 ([.own 3 (.slice A5 m5 c5) m5 s5,.box (wr.heap.size+1+1) 23 [.slice Bs ms cap,.slice Bt mt capt],.own 3 (.slice (some ⟨wr.heap.size+1,0,none⟩) 2 2) 2 [0,1],.own 3 (.slice (some ⟨wr.heap.size,0,none⟩) 1 1) 1 [((j:Int))],oN,oN,oN,.box gr 37 zN]++l21)):=Hd h9;clear hO hb4 h9 H2 HA;by_cases he:e5=0
     ·have dE:(e5==0)=true:=by simpa using he
      have CZ:=a1s (c:=c5) ((H.ownInts 0 rfl).2.2);have HE0:=Hd he;clear he
      go_wp2_with fail
      refine CZ.mono ?_;rintro e7 w7 ⟨rfl,rfl⟩;clear CZ;obtain⟨z,hz⟩:∃ z,Sh.size s5=z:=⟨_,rfl⟩;rw[hz] at HHIT ⊢;clear hz;by_cases hz3:z≤300
      ·have dz:decide (z≤300)=true:=by simpa using hz3
       have HX1:=Hd (show b1q s t j=true by rw[HHIT.out,HE0.out,dz];rfl);replace H:=Hd (H.litP 3 #[.int .i64 ((q:Int)),.int .i64 (((k:Int)+(r21:Int)) % (nl:Int))] [((q:Int)),(((k:Int)+(r21:Int)) % (nl:Int))] 2 rfl (by first|(simp[a1d];done)|(simp[a1d];omega)));replace H:Hid (Sep w0 ((w4.alloc (.cells #[.int .i64 ((q:Int)),.int .i64 (((k:Int)+(r21:Int)) % (nl:Int))] 3)).alloc (.cells #[.int .i64 (j:Int)] 3)) ([.own 3 (.slice (some ⟨w4.heap.size+1,0,none⟩) 1 1) 1 [(j:Int)],.own 3 (.slice (some ⟨w4.heap.size,0,none⟩) 2 2) 2 [((q:Int)),(((k:Int)+(r21:Int)) % (nl:Int))],.own 3 (.slice A5 m5 c5) m5 s5,.box (wr.heap.size+1+1) 23 [.slice Bs ms cap,.slice Bt mt capt],.own 3 (.slice (some ⟨wr.heap.size+1,0,none⟩) 2 2) 2 [0,1],.own 3 (.slice (some ⟨wr.heap.size,0,none⟩) 1 1) 1 [((j:Int))],oN,oN,oN,.box gr 37 zN]++l21)):=Hd (H.lit 3 #[.int .i64 (j:Int)] [(j:Int)] 1 (w4.heap.size+1) (by rw[a1k]) rfl (by simp[a1d];omega))
       have HX:=Hd (show KS=(ndV 19 [(q:Int),((k:Int)+(r21:Int)) % (nl:Int)] [] [(j:Int)] 0 0,a21) by
        rw[HBI.out];have h8:L.length=nl:=HLL.out;rw[←HQD.out,kDot,HR21.out,HA21.out,Int.toNat_natCast,h8,HBB.out,HGT.out];rcases Nat.eq_zero_or_pos j with h7|h7
        ·subst h7;rw[iP HX1.out];rfl
        ·obtain rfl:j=1:=by omega
         rw[iN (by rw[HNO.out 0 (by omega)];decide),iP HX1.out];rfl)
       obtain⟨rc0,rc1,rc2,rc3,rc4,rc5,rc6⟩:=H.cells7 9 rfl;obtain⟨fr0,fr1,fr2,fr3,fr4,fr5,fr6⟩:=H.f7 9 rfl;have HF:=Hd (H.set7 9 rfl (.int .i64 19) (.slice (some ⟨w4.heap.size,0,none⟩) 2 2) (.slice none 0 0) (.slice (some ⟨w4.heap.size+1,0,none⟩) 1 1) (.int .i64 0) (.int .i64 0) (.string ⟨#[]⟩));go_wp2;refine a0y HF 9 rfl results41 rfl rfl ?_;rw[HX.out];exact⟨_,_,_,_,_,_,rfl,_,HK,Sep.pick HF [1,6,0] rfl (by decide)⟩
      ·have dz:decide (z≤300)=false:=by simpa using hz3
       have HX:=Hd (show b1q s t j=false by rw[HHIT.out,dz,Bool.and_false]);go_wp2;go_roundw
       case rel=>exact⟨j+1,by go_num,by omega,fun e he=>by
        rcases Nat.lt_or_ge e j with h7|h7
        ·exact HNO e h7
        ·obtain rfl:e=j:=by omega
         exact HX,Sep.pick H [4,5,6,7] rfl (by decide)⟩
       case measure=>simp[intOf];omega
     ·have dE:(e5==0)=false:=by simpa using he
      have HX:=Hd (show b1q s t j=false by rw[HHIT.out,decide_eq_false he,Bool.false_and]);clear he;go_wp2;go_roundw
      case rel=>exact⟨j+1,by go_num,by omega,fun e he=>by
       rcases Nat.lt_or_ge e j with h7|h7
       ·exact HNO e h7
       ·obtain rfl:e=j:=by omega
        exact HX,Sep.pick H [4,5,6,7] rfl (by decide)⟩
      case measure=>simp[intOf];omega
    ·obtain rfl:j=2:=by omega
     have HQE:=Hd (show kDot xs L s q m (k+1) a21=KS by
      have h8:L.length=nl:=HLL.out;have h7:=HQD.out;rw[kDot,HR21.out,HA21.out,Int.toNat_natCast,h8,HBB.out,HGT.out,iN (by rw[HNO.out 0 (by omega)];decide),iN (by rw[HNO.out 1 (by omega)];decide)] at h7
      exact h7)
     go_wp2;go_roundw
     case rel=>exact⟨k+1,a21,_,by go_num,by omega,ba21,by rw[HM.out];exact HQE,HK,H⟩
     case measure=>simp[intOf];omega
  ·have hkn:k=nl:=by omega
   subst hkn;replace H:=Hd (H.litP 3 #[.int .i64 ((q:Int))] [((q:Int))] 1 rfl (by first|(simp[a1d];done)|(simp[a1d];omega)));have HX:=Hd (show KS=(ndV 5 [(q:Int)] [] [] 0 0,a9) by rw[←HQ.out,Nat.sub_self,kDot]);obtain⟨rc0,rc1,rc2,rc3,rc4,rc5,rc6⟩:=H.cells7 4 rfl;obtain⟨fr0,fr1,fr2,fr3,fr4,fr5,fr6⟩:=H.f7 4 rfl;have HF:=Hd (H.set7 4 rfl (.int .i64 5) (.slice (some ⟨wr.heap.size,0,none⟩) 1 1) (.slice none 0 0) (.slice none 0 0) (.int .i64 0) (.int .i64 0) (.string ⟨#[]⟩));go_wp2;refine a0y HF 4 rfl results41 rfl rfl ?_;rw[HX.out];exact⟨_,_,_,_,_,_,rfl,_,HK,Sep.pick HF [0,1,2] rfl (by decide)⟩
theorem a5l.app {P l0:List a0i}(h:a5l w0 l i g A n c Al nl L)(hK:KT l i (TB g A n c a) l0):a5l w0 (P++l0) (P.length+i) g A n c Al nl L :=
 ⟨h.1,h.2.1,fun j x hx=>by
  obtain⟨la,B,m,cap,e,hc,hs⟩:=h.2.2 j x hx;refine⟨la,B,m,cap,e,hc,fun w a' l1 hk H=>?_⟩;obtain⟨l2,rfl,hk2⟩:=hK.app hk
  exact hs w a' l2 hk2 H.rest_⟩
theorem c8d (q b:Nat)(h5:¬ tv xs a 5=0)(hq:tv xs (ta xs a 5) nl=q)(hs:L[q]?=some s)(hb:ta xs (ta xs (ta xs a 5) nl) 12=b)(hk:tv xs (ta xs (ta xs a 5) nl) 12=10)(H:Sep w0 w l)(hi:l[i]?=some (TB g A n c a))(hI:Ints w0 A n xs)(ha:a≤n)(hL:a5l w0 l i g A n c Al nl L):
  Calls prog 17 #[.pointer (some ⟨g,0,none⟩),.slice Al nl cl] w (a2m w0 l i g A n c (kDot xs L s q nl 0 b)):=by
 obtain⟨KS,hKS⟩:∃ q0,kDot xs L s q nl 0 b=q0:=⟨_,rfl⟩;rw[hKS];have HKS:=Hd hKS;clear hKS;have HXL:=Hd hI.len;have HI:=Hd hI;have hnle:=hI.le;have hll:=hL.1;have hln:=hL.2.1;have HLL:=Hd hll;have HLK:=Hd hL;have HK:Hid (KT l i (TB g A n c a) l):=Hd ⟨hi,fun _=>rfl⟩;clear hll;have h1:=(((H.allocBox w.heap.size 37 zN rfl).addNil 3).addNil 3).addNil 3
 go_enter func17,ntmps17
 go_upto_region 1 with fail
 generalize w.alloc (.cells zA 37)=W at *;generalize w.heap.size=gr at *;clear H hi hI hL;have H:Hid (Sep w0 W ([oN,oN,oN,.box gr 37 zN]++l)):=Hd h1;clear h1;have hnl:0<nl:=by have h8:L.length=nl:=HLL.out;have:=(lL hs);omega
 have dn:((nl:Int)==0)=false:=by simp;omega
 have HQ0:=Hd hq;have HB0:=Hd hb;have HK0:=Hd hk;have HS0:=Hd hs;have h5n:=Hd h5;clear hq hb hk hs h5
 go_wp2_with fail
 refine(a0s (5) H HK HI ha (by omega) ⟨by omega,by omega⟩).mono ?_;clear H HK;rintro e1 w1 ⟨r1,a1,l1,rfl,HR1,br1,HA1,ba1,HK,H⟩;have d5:((r1:Int)==0)=false:=by have h8:=HR1.out;have h9:=h5n.out;rw[h8] at h9;simpa using h9
 go_wp2_with fail
 refine(a0s ((nl:Int)) H HK HI ba1 (by omega) ⟨by omega,by omega⟩).mono ?_;clear H HK;rintro e2 w2 ⟨r2,a2,l2,rfl,HR2,br2,HA2,ba2,HK,H⟩;obtain rfl:r2=q:=by have h8:=HR2.out;have h9:=HQ0.out;rw[HA1.out,h8] at h9;omega
 obtain⟨la,Bs,ms,cap,hAl,hmc,hst⟩:=HLK.out.2.2 r2 s HS0;subst hAl;have HST:=Hd hst;obtain⟨hlb,hcl,hIs⟩:=hst w2 a2 l2 HK H.rest_;have HSL:=Hd hIs.len;have hmsl:=hIs.le;have hr2:r2<nl:=by omega
 clear hst hIs hlb
 go_wp2_with fail
 clear hcl;refine(a0s (12) H HK HI ba2 (by omega) ⟨by omega,by omega⟩).mono ?_;clear H HK;rintro e3 w3 ⟨r3,a3,l3,rfl,HR3,br3,HA3,ba3,HK,H⟩;obtain rfl:r3=10:=by have h8:=HR3.out;have h9:=HK0.out;rw[HA1.out,HA2.out,h8] at h9;omega
 obtain rfl:a3=b:=by have h8:=HA3.out;have h9:=HB0.out;rw[HA1.out,HA2.out,h8] at h9;exact h9
 clear HR1 HR2 HR3 HQ0 HB0 HK0 h5n d5 dn
 go_wp2_with fail
 refine(d6a r2 HS0 H ((c2s i).trans HK.out.1) HI ba3 (HLK.app HK)).mono ?_;rintro e9 w9 ⟨vA,mA,vB,mB,vC,mC,rfl,l8,hK9,hS9⟩;obtain⟨l9,rfl,hK⟩:=HK.app hK9;obtain⟨⟨nd,ad⟩,hd⟩:∃ z,kDot xs L s r2 nl 0 a3=z:=⟨_,rfl⟩;rw[hd] at hK hS9 ⊢;have HX:=Hd (show KS=(nd,ad) by rw[←HKS.out,hd]);replace HK:=Hd hK;obtain⟨AA,cA,hv,_,_,_⟩:=(hS9.ownS 0 rfl).form;subst hv;obtain⟨AB,cB,hv,_,_,_⟩:=(hS9.ownS 1 rfl).form;subst hv;obtain⟨AC,cC,hv,_,_,_⟩:=(hS9.ownS 2 rfl).form;subst hv;replace H:Hid (Sep w0 w9 ([.own 3 (.slice AA mA cA) mA nd.ins,.own 3 (.slice AB mB cB) mB nd.shape,.own 3 (.slice AC mC cC) mC nd.a,oN,oN,oN,.box gr 37 zN]++l9)):=Hd hS9;clear hd hK hK9 hS9;obtain⟨rc0,rc1,rc2,rc3,rc4,rc5,rc6⟩:=H.cells7 6 rfl;obtain⟨fr0,fr1,fr2,fr3,fr4,fr5,fr6⟩:=H.f7 6 rfl;have HF:=Hd (H.set7 6 rfl (.int .i64 nd.op) (.slice AA mA cA) (.slice AB mB cB) (.slice AC mC cC) (.int .i64 nd.n) (.int .i64 nd.how) (.string nd.note));go_wp2;refine a0y HF 6 rfl results17 rfl rfl ?_;rw[HX.out];exact⟨_,_,_,_,_,_,rfl,_,HK,Sep.pick HF [0,1,2] rfl (by decide)⟩
theorem d1y (q b:Nat)(h5:¬ tv xs a 5=0)(hq:tv xs (ta xs a 5) nl=q)(hs:L[q]?=some s)(hb:ta xs (ta xs (ta xs a 5) nl) 12=b)(hk:tv xs (ta xs (ta xs a 5) nl) 12=6)(hs4:s.length≤4∧∀ x∈s,0≤x∧x≤32)(H:Sep w0 w l)(hi:l[i]?=some (TB g A n c a))(hI:Ints w0 A n xs)(ha:a≤n)(hL:a5l w0 l i g A n c Al nl L):
  Calls prog 17 #[.pointer (some ⟨g,0,none⟩),.slice Al nl cl] w (a2m w0 l i g A n c (kOp6 xs b q s)):=by
 obtain⟨KS,hKS⟩:∃ q0,kOp6 xs b q s=q0:=⟨_,rfl⟩;rw[hKS];have HKS:=Hd hKS;clear hKS;have HXL:=Hd hI.len;have HI:=Hd hI;have hnle:=hI.le;have hll:=hL.1;have hln:=hL.2.1;have HLL:=Hd hll;have HLK:=Hd hL;have HK:Hid (KT l i (TB g A n c a) l):=Hd ⟨hi,fun _=>rfl⟩;clear hll;have h1:=(((H.allocBox w.heap.size 37 zN rfl).addNil 3).addNil 3).addNil 3
 go_enter func17,ntmps17
 go_upto_region 1 with fail
 generalize w.alloc (.cells zA 37)=W at *;generalize w.heap.size=gr at *;clear H hi hI hL;have H:Hid (Sep w0 W ([oN,oN,oN,.box gr 37 zN]++l)):=Hd h1;clear h1;have hnl:0<nl:=by have h8:L.length=nl:=HLL.out;have:=(lL hs);omega
 have dn:((nl:Int)==0)=false:=by simp;omega
 have HQ0:=Hd hq;have HB0:=Hd hb;have HK0:=Hd hk;have HS0:=Hd hs;have h5n:=Hd h5;clear hq hb hk hs h5
 go_wp2_with fail
 refine(a0s (5) H HK HI ha (by omega) ⟨by omega,by omega⟩).mono ?_;clear H HK;rintro e1 w1 ⟨r1,a1,l1,rfl,HR1,br1,HA1,ba1,HK,H⟩;have d5:((r1:Int)==0)=false:=by have h8:=HR1.out;have h9:=h5n.out;rw[h8] at h9;simpa using h9
 go_wp2_with fail
 refine(a0s ((nl:Int)) H HK HI ba1 (by omega) ⟨by omega,by omega⟩).mono ?_;clear H HK;rintro e2 w2 ⟨r2,a2,l2,rfl,HR2,br2,HA2,ba2,HK,H⟩;obtain rfl:r2=q:=by have h8:=HR2.out;have h9:=HQ0.out;rw[HA1.out,h8] at h9;omega
 obtain⟨la,Bs,ms,cap,hAl,hmc,hst⟩:=HLK.out.2.2 r2 s HS0;subst hAl;have HST:=Hd hst;obtain⟨hlb,hcl,hIs⟩:=hst w2 a2 l2 HK H.rest_;have HSL:=Hd hIs.len;have hmsl:=hIs.le;have hr2:r2<nl:=by omega
 clear hst hIs hlb
 go_wp2_with fail
 clear hcl;refine(a0s (12) H HK HI ba2 (by omega) ⟨by omega,by omega⟩).mono ?_;clear H HK;rintro e3 w3 ⟨r3,a3,l3,rfl,HR3,br3,HA3,ba3,HK,H⟩;obtain rfl:r3=6:=by have h8:=HR3.out;have h9:=HK0.out;rw[HA1.out,HA2.out,h8] at h9;omega
 obtain rfl:a3=b:=by have h8:=HA3.out;have h9:=HB0.out;rw[HA1.out,HA2.out,h8] at h9;exact h9
 clear HR1 HR2 HR3 HQ0 HB0 HK0 h5n d5 dn
 go_wp2_with fail
 replace H:Hid (Sep w0 w3 ([oN,oN,oN,oN,.box gr 37 zN]++l3)):=Hd (H.addNil 3);replace H:Hid (Sep w0 w3 ([oN,oN,oN,oN,oN,.box gr 37 zN]++l3)):=Hd (H.addNil 3)
 go_loopw [201,18,19] (fun iv av bv wr=>∃(j:Nat) (vl vh:Value) (lo hi:List Int) (a9:Nat) (l9:List a0i),vl=av∧vh=bv∧iv=.int .i64 j∧j≤ms∧lo.length=j∧a9≤n∧((lo++(a4i xs (s.drop j) a9).1.1,hi++(a4i xs (s.drop j) a9).1.2),(a4i xs (s.drop j) a9).2)=a4i xs s a3∧KT l i (TB g A n c a9) l9∧Sep w0 wr ([.own 3 vl lo.length lo,.own 3 vh lo.length hi,oN,oN,oN,.box gr 37 zN]++l9)) (fun iv _ _ _=>ms-(intOf iv).toNat)
 case atStart=>exact⟨0,_,_,[],[],a3,_,rfl,rfl,rfl,by omega,rfl,ba3,rfl,HK,H⟩
 case round =>
  clear H HK;obtain⟨j,vl,vh,lo,hi,a9,l9,rfl,rfl,rfl,hj,hal,ba9,hq,hK,hS⟩:=hrel;have H:=Hd hS;have HK:=Hd hK;have HQ:=Hd hq;have HAL:=Hd hal;clear hS hK hq hal;by_cases hlt:j<ms
  ·obtain⟨sa,x,hsA,_,hx,hcx,_⟩:=((HST _ _ _ HK H.rest_).2.2).at_ (k:=j) hlt;subst hsA;obtain⟨hx0,hx32⟩:=hs4.2 x (mG hx);obtain⟨xn,rfl⟩:=eZ hx0;have hxn:xn≤32:=by omega
   have HQD:=Hd (show((lo++(a4i xs ((xn:Int)::s.drop (j+1)) a9).1.1,hi++(a4i xs ((xn:Int)::s.drop (j+1)) a9).1.2),(a4i xs ((xn:Int)::s.drop (j+1)) a9).2)=a4i xs s a3 by rw[←a8j hx];exact HQ);have HXN:=Hd hx;clear hx hx0 hx32
   go_wp2_with fail
   clear hcx;refine(a0s ((xn:Int)+1) H HK HI ba9 (by omega) ⟨by omega,by omega⟩).mono ?_;clear H HK;rintro e21 w21 ⟨r21,a21,l21,rfl,HR21,br21,HA21,ba21,HK,H⟩;have hcy:=((HST _ _ _ HK H.rest_).2.2).get HXN;have hlal:lo.length≤900:=by have h8:=HAL.out;have h9:=hs4.1;have h10:=HSL.out;omega
   have hrx:r21≤xn:=by omega
   have hw1:IntKind.i64.wrap ((xn:Int)-(r21:Int))=(xn:Int)-(r21:Int):=IntWalk.i64_in _ ⟨by omega,by omega⟩;have hw2:IntKind.i64.wrap ((xn:Int)-(r21:Int)+1)=(xn:Int)-(r21:Int)+1:=IntWalk.i64_in _ ⟨by omega,by omega⟩
   go_upto_region 52 with fail
   have H0:=Hd H.drew;refine wp_region_held_drew (S:=(fun w'=>w'.cell? (sa.add j)=some (.int .i64 (xn:Int)))) (by kernel_rfl) ?_ (fun hq_=>?_)
   ·exact hcy
   refine zV 0 hq_ ?_;refine zV 1 hq_ ?_;refine zV 4 hq_ ?_;refine zV 5 hq_ ?_;refine zV 6 hq_ ?_;refine zV 7 hq_ ?_;refine zV 8 hq_ ?_;refine zV 9 hq_ ?_;refine zV 10 hq_ ?_;refine zV 11 hq_ ?_;refine zV 12 hq_ ?_;refine e1 2 fun K hK=>?_;go_simp;(try go_wp2_with fail);refine zX hK (fun hq_=>?_) (a1j _ hcy);refine e1 3 fun K hK=>?_;(refine a0l rfl (.tmp 211) (.tmp 213) 23 3 rfl underlying23 Tryz.infoInt H0.out 0 rfl rfl (r21:Int) ⟨by omega,by omega⟩ _ rfl ?_ ?_;(focus omega);intro v3 w3 h3;have H3:Hid (Sep w0 w3 ([.own 3 v3 (lo.length+1) (lo++[(r21:Int)]),.own 3 vh lo.length hi,oN,oN,oN,.box gr 37 zN]++l21)):=Hd h3;have hcy3:=(HST.out _ _ _ HK.out H3.rest_).2.2.get HXN.out;clear h3);refine zX hK fun hq_=>?_;refine e1 13 fun K hK=>?_
   first|(refine effU ?_ ?_;(focus rfl))|(go_simp;(go_at_call 16;refine(a7x ((xn:Int)-(r21:Int)+1) H3 HK HI ba21 ⟨by omega,by omega⟩).mono ?_;rintro e30 w30 ⟨rfl,l30,hK30,hS30⟩;have b0:=a0m xs a21 ((xn:Int)-(r21:Int)+1);have b1:=a3f xs a21 (show(0:Int)<(xn:Int)-(r21:Int)+1 by omega);obtain⟨r30,hr30⟩:∃ z,tv xs a21 ((xn:Int)-(r21:Int)+1)=z:=⟨_,rfl⟩;rw[hr30] at b0 b1 ⊢;obtain⟨r30,rfl⟩:=eZ b0;have HR30:=Hd hr30;obtain⟨a30,ha30⟩:∃ z,ta xs a21 ((xn:Int)-(r21:Int)+1)=z:=⟨_,rfl⟩;have ba30:=a1f ((xn:Int)-(r21:Int)+1) HXL ba21;rw[ha30] at ba30 hK30;have HA30:=Hd ha30;have HK30:=Hd hK30;have H4:Hid (Sep w0 w30 ([.own 3 v3 (lo.length+1) (lo++[(r21:Int)]),.own 3 vh lo.length hi,oN,oN,oN,.box gr 37 zN]++l30)):=Hd hS30;have hcy4:=(HST _ _ _ HK30 H4.rest_).2.2.get HXN;clear hr30 ha30 hK30 hS30 b0);go_wp2_with fail)
   refine zX hK fun hq_=>?_;refine e1 14 fun K hK=>?_;go_simp;(try go_wp2_with fail);refine zX hK (fun hq_=>?_) (a1j _ hcy4);refine e1 15 fun K hK=>?_;(refine a0l rfl (.tmp 215) (.tmp 225) 23 3 rfl underlying23 Tryz.infoInt H4.out 1 rfl rfl (r30:Int) ⟨by omega,by omega⟩ _ rfl ?_ ?_;(focus omega);intro v5 w5 h5;have H5:Hid (Sep w0 w5 ([.own 3 v3 (lo.length+1) (lo++[(r21:Int)]),.own 3 v5 (lo.length+1) (hi++[(r30:Int)]),oN,oN,oN,.box gr 37 zN]++l30)):=Hd h5;have hcy5:=(HST.out _ _ _ HK30.out H5.rest_).2.2.get HXN.out;clear h5);refine zX hK fun hq_=>?_;refine zV 16 hq_ ?_;refine zV 17 hq_ ?_;refine dN ?_;have HQE:=Hd (c4q HQD.out HR21.out HA21.out HR30.out HA30.out);go_wp2;go_roundw
   case rel=>exact⟨j+1,_,_,lo++[(r21:Int)],hi++[(r30:Int)],a30,_,rfl,rfl,by go_num,by omega,by rw[List.length_append,List.length_singleton,HAL.out],ba30,HQE,HK30,by rw[List.length_append,List.length_singleton];exact H5⟩
   case measure=>simp[intOf];omega
  ·have hjm:j=ms:=by omega
   subst hjm;have HE:=Hd (show a4i xs s a3=((lo,hi),a9) by rw[←HQ.out,List.drop_eq_nil_of_le (by have h8:=HSL.out;omega),a4i,List.append_nil,List.append_nil]);obtain⟨A9,c9,hv,hmc9,_,_⟩:=(H.ownS 0 rfl).form;subst hv;obtain⟨A8,c8,hv,hmc8,_,_⟩:=(H.ownS 1 rfl).form;subst hv;replace H:=Hd (H.litP 3 #[.int .i64 ((r2:Int))] [((r2:Int))] 1 rfl (by first|(simp[a1d];done)|(simp[a1d];omega)))
   go_wp2_with (at_builtin;refine a0f rfl (.tmp 230) (.tmp 231) 23 3 rfl underlying23 Tryz.infoInt H.out 1 rfl rfl A8 lo.length c8 hi rfl ((H.out.ownInts 2 rfl).2.2) ?c1 ?_)
   case c1=>have h8:=HAL.out;have h9:=hs4.1;have h10:=HSL.out;omega
   intro vj wj h';replace H:Hid (Sep w0 wj ([.own 3 (.slice (some ⟨wr.heap.size,0,none⟩) 1 1) 1 [((r2:Int))],.own 3 vj (lo.length+lo.length) (lo++hi),.own 3 (.slice A8 lo.length c8) lo.length hi,oN,oN,oN,.box gr 37 zN]++l9)):=Hd h';clear h';obtain⟨A7,c7,hv,hmc7,_,_⟩:=(H.ownS 1 rfl).form;subst hv;have HX:=Hd (show KS=(ndV 15 [(r2:Int)] [] (lo++hi) 0 0,a9) by rw[←HKS.out,kOp6,HE.out]);obtain⟨rc0,rc1,rc2,rc3,rc4,rc5,rc6⟩:=H.cells7 6 rfl;obtain⟨fr0,fr1,fr2,fr3,fr4,fr5,fr6⟩:=H.f7 6 rfl;have HF:=Hd (H.set7 6 rfl (.int .i64 15) (.slice (some ⟨wr.heap.size,0,none⟩) 1 1) (.slice none 0 0) (.slice A7 (lo.length+lo.length) c7) (.int .i64 0) (.int .i64 0) (.string ⟨#[]⟩));go_wp2;refine a0y HF 6 rfl results17 rfl rfl ?_;rw[HX.out];exact⟨_,_,_,_,_,_,rfl,_,HK,Sep.pick HF [0,3,1] rfl (by decide)⟩
end Go.Proofs.YtajhdeddgdhccaaGreatDoor
