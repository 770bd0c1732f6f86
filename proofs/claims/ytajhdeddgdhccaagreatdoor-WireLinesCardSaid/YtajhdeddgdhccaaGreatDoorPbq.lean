import Derived.Test.YtajhdeddgdhccaaGreatDoorPay
import Derived.Test.YtajhdeddgdhccaaGreatDoorPbp
set_option maxRecDepth 100000
set_option maxHeartbeats 12800000
namespace Go.Proofs.YtajhdeddgdhccaaGreatDoor
open Go.RowKit Go.Proofs.Tryz
variable {A Al:Option Addr} {L:List (List Int)} {a c cl g i n nl:Nat} {l:List a0i} {s xs:List Int} {w w0:World}
def a2j (xs:List Int):Nat→Nat→Nat→List Int × Nat
 | 0,_,a=>([],a)
 | m+1,j,a=>if tv xs a 2=0 then((j:Int)::(a2j xs m (j+1) (ta xs a 2)).1,(a2j xs m (j+1) (ta xs a 2)).2) else a2j xs m (j+1) (ta xs a 2)
def kOp9 (xs:List Int) (b q:Nat) (s:List Int):a0p × Nat :=
 (ndV 18 [(q:Int)] [] (a2j xs s.length 0 b).1 0 (1+tv xs (a2j xs s.length 0 b).2 4),ta xs (a2j xs s.length 0 b).2 4)
def a4o (xs:List Int):Nat→Nat→(List Int × List Int) × Nat
 | 0,a=>(([],[]),a)
 | m+1,a=>((tv xs a 3::(a4o xs m (ta xs (ta xs a 3) 3)).1.1,tv xs (ta xs a 3) 3::(a4o xs m (ta xs (ta xs a 3) 3)).1.2),(a4o xs m (ta xs (ta xs a 3) 3)).2)
def kOp7 (xs:List Int) (b q:Nat) (s:List Int):a0p × Nat :=
 (ndV 16 [(q:Int)] [] ((a4o xs s.length b).1.1++(a4o xs s.length b).1.2) (kNum xs (a4o xs s.length b).2).1 0,(kNum xs (a4o xs s.length b).2).2)
def a4i (xs:List Int):List Int→Nat→(List Int × List Int) × Nat
 | [],a=>(([],[]),a)
 | x::s,a=>((tv xs a (x+1)::(a4i xs s (ta xs (ta xs a (x+1)) (x-tv xs a (x+1)+1))).1.1,tv xs (ta xs a (x+1)) (x-tv xs a (x+1)+1)::(a4i xs s (ta xs (ta xs a (x+1)) (x-tv xs a (x+1)+1))).1.2),(a4i xs s (ta xs (ta xs a (x+1)) (x-tv xs a (x+1)+1))).2)
def kOp6 (xs:List Int) (b q:Nat) (s:List Int):a0p × Nat :=
 (ndV 15 [(q:Int)] [] ((a4i xs s b).1.1++(a4i xs s b).1.2) 0 0,(a4i xs s b).2)
theorem c4q {lo hi rest:List Int}{x f z:Int}{a9 a1 a2:Nat}{F:(List Int × List Int) × Nat}(h:((lo++(a4i xs (x::rest) a9).1.1,hi++(a4i xs (x::rest) a9).1.2),(a4i xs (x::rest) a9).2)=F)(h1:tv xs a9 (x+1)=f)(h2:ta xs a9 (x+1)=a1)(h3:tv xs a1 (x-f+1)=z)(h4:ta xs a1 (x-f+1)=a2):
  (((lo++[f])++(a4i xs rest a2).1.1,(hi++[z])++(a4i xs rest a2).1.2),(a4i xs rest a2).2)=F:=by
 subst h1;subst h2;subst h3;subst h4;rw[←h,a4i,List.append_assoc,List.append_assoc];rfl
theorem d2b (q b:Nat)(h5:¬ tv xs a 5=0)(hq:tv xs (ta xs a 5) nl=q)(hs:L[q]?=some s)(hb:ta xs (ta xs (ta xs a 5) nl) 12=b)(hk:tv xs (ta xs (ta xs a 5) nl) 12=9)(hs4:s.length≤4)(H:Sep w0 w l)(hi:l[i]?=some (TB g A n c a))(hI:Ints w0 A n xs)(ha:a≤n)(hL:a5l w0 l i g A n c Al nl L):
  Calls prog 17 #[.pointer (some ⟨g,0,none⟩),.slice Al nl cl] w (a2m w0 l i g A n c (kOp9 xs b q s)):=by
 obtain⟨KS,hKS⟩:∃ q0,kOp9 xs b q s=q0:=⟨_,rfl⟩;rw[hKS];have HKS:=Hd hKS;clear hKS;have HXL:=Hd hI.len;have HI:=Hd hI;have hnle:=hI.le;have hll:=hL.1;have hln:=hL.2.1;have HLL:=Hd hll;have HLK:=Hd hL;have HK:Hid (KT l i (TB g A n c a) l):=Hd ⟨hi,fun _=>rfl⟩;clear hll;have h1:=(((H.allocBox w.heap.size 37 zN rfl).addNil 3).addNil 3).addNil 3
 go_enter func17,ntmps17
 go_upto_region 1 with fail
 generalize w.alloc (.cells zA 37)=W at *;generalize w.heap.size=gr at *;clear H hi hI hL;have H:Hid (Sep w0 W ([oN,oN,oN,.box gr 37 zN]++l)):=Hd h1;clear h1;have hnl:0<nl:=by have h8:L.length=nl:=HLL.out;have:=(lL hs);omega
 have dn:((nl:Int)==0)=false:=by simp;omega
 have HQ0:=Hd hq;have HB0:=Hd hb;have HK0:=Hd hk;have HS0:=Hd hs;have h5n:=Hd h5;clear hq hb hk hs h5
 go_wp2_with fail
 refine(a0s (5) H HK HI ha (by omega) ⟨by omega,by omega⟩).mono ?_;clear H HK;rintro e1 w1 ⟨r1,a1,l1,rfl,HR1,br1,HA1,ba1,HK,H⟩;have d5:((r1:Int)==0)=false:=by have h8:=HR1.out;have h9:=h5n.out;rw[h8] at h9;simpa using h9
 go_wp2_with fail
 refine(a0s ((nl:Int)) H HK HI ba1 (by omega) ⟨by omega,by omega⟩).mono ?_;clear H HK;rintro e2 w2 ⟨r2,a2,l2,rfl,HR2,br2,HA2,ba2,HK,H⟩;obtain rfl:r2=q:=by have h8:=HR2.out;have h9:=HQ0.out;rw[HA1.out,h8] at h9;omega
 obtain⟨la,Bs,ms,cap,hAl,hmc,hst⟩:=HLK.out.2.2 r2 s HS0;subst hAl;have HST:=Hd hst;obtain⟨hlb,hcl,hIs⟩:=hst w2 a2 l2 HK H.rest_;have HSL:=Hd hIs.len;have hmsl:=hIs.le;have hr2:r2<nl:=by omega
 clear hst hIs hlb
 go_wp2_with fail
 clear hcl;refine(a0s (12) H HK HI ba2 (by omega) ⟨by omega,by omega⟩).mono ?_;clear H HK;rintro e3 w3 ⟨r3,a3,l3,rfl,HR3,br3,HA3,ba3,HK,H⟩;obtain rfl:r3=9:=by have h8:=HR3.out;have h9:=HK0.out;rw[HA1.out,HA2.out,h8] at h9;omega
 obtain rfl:a3=b:=by have h8:=HA3.out;have h9:=HB0.out;rw[HA1.out,HA2.out,h8] at h9;exact h9
 clear HR1 HR2 HR3 HQ0 HB0 HK0 h5n d5 dn
 go_wp2_with fail
 replace H:Hid (Sep w0 w3 ([oN,oN,oN,oN,.box gr 37 zN]++l3)):=Hd (H.addNil 3)
 go_loopw [294,25] (fun iv av wr=>∃(j:Nat) (va:Value) (acc:List Int) (a9:Nat) (l9:List a0i),va=av∧iv=.int .i64 j∧j≤ms∧acc.length≤j∧a9≤n∧(acc++(a2j xs (ms-j) j a9).1,(a2j xs (ms-j) j a9).2)=a2j xs ms 0 a3∧KT l i (TB g A n c a9) l9∧Sep w0 wr ([.own 3 va acc.length acc,oN,oN,oN,.box gr 37 zN]++l9)) (fun iv _ _=>ms-(intOf iv).toNat)
 case atStart=>exact⟨0,_,[],a3,_,rfl,rfl,by omega,Nat.le_refl _,ba3,rfl,HK,H⟩
 case round =>
  clear H HK;obtain⟨j,va,acc,a9,l9,rfl,rfl,hj,hal,ba9,hq,hK,hS⟩:=hrel;have H:=Hd hS;have HK:=Hd hK;have HQ:=Hd hq;clear hS hK hq;by_cases hlt:j<ms
  ·obtain⟨m,hm⟩:∃ m,ms-j=m+1:=⟨ms-j-1,by omega⟩;have HM:=Hd (show ms-(j+1)=m by omega);have HQD:=Hd (show(acc++(a2j xs (m+1) j a9).1,(a2j xs (m+1) j a9).2)=a2j xs ms 0 a3 by rw[←hm];exact HQ);clear hm
   go_wp2_with fail
   refine(a0s (2) H HK HI ba9 (by omega) ⟨by omega,by omega⟩).mono ?_;clear H HK;rintro e21 w21 ⟨r21,a21,l21,rfl,HR21,br21,HA21,ba21,HK,H⟩;by_cases q0:r21=0
   ·subst q0;have HQE:=Hd (show((acc++[(j:Int)])++(a2j xs m (j+1) a21).1,(a2j xs m (j+1) a21).2)=a2j xs ms 0 a3 by have h7:=HQD.out;rw[a2j,iP (by rw[HR21.out];rfl),HA21.out] at h7;rw[List.append_assoc];exact h7)
    go_wp2_with (at_builtin;refine a0u rfl (.tmp 300) (.tmp 302) 23 3 rfl underlying23 Tryz.infoInt H.out 0 rfl rfl (j:Int) ⟨by omega,by omega⟩ _ rfl ?c1 ?_)
    case c1=>have h9:=hs4;have h10:=HSL.out;omega
    intro v' w' h';have H8:=Hd h';clear h';go_wp2;go_roundw
    case rel=>exact⟨j+1,_,acc++[(j:Int)],a21,_,rfl,by go_num,by omega,by rw[List.length_append,List.length_singleton];omega,ba21,by rw[HM.out];exact HQE,HK,by rw[List.length_append,List.length_singleton];exact H8⟩
    case measure=>simp[intOf];omega
   ·have d0:((r21:Int)==0)=false:=by simp;omega
    have HQE:=Hd (show(acc++(a2j xs m (j+1) a21).1,(a2j xs m (j+1) a21).2)=a2j xs ms 0 a3 by have h7:=HQD.out;rw[a2j,iN (by rw[HR21.out];omega),HA21.out] at h7;exact h7);go_wp2;go_roundw
    case rel=>exact⟨j+1,_,acc,a21,_,rfl,by go_num,by omega,by omega,ba21,by rw[HM.out];exact HQE,HK,H⟩
    case measure=>simp[intOf];omega
  ·have hjm:j=ms:=by omega
   subst hjm;have HE:=Hd (show a2j xs j 0 a3=(acc,a9) by rw[←HQ.out,Nat.sub_self,a2j,List.append_nil]);obtain⟨A9,c9,hv,hmc9,_,_⟩:=(H.ownS 0 rfl).form;subst hv;replace H:=Hd (H.litP 3 #[.int .i64 ((r2:Int))] [((r2:Int))] 1 rfl (by first|(simp[a1d];done)|(simp[a1d];omega)))
   go_wp2_with fail
   refine(a0s (4) H HK HI ba9 (by omega) ⟨by omega,by omega⟩).mono ?_;clear H HK;rintro e22 w22 ⟨r22,a22,l22,rfl,HR22,br22,HA22,ba22,HK,H⟩;have HX:=Hd (show KS=(ndV 18 [(r2:Int)] [] acc 0 (1+(r22:Int)),a22) by rw[←HKS.out,kOp9,HSL.out,HE.out,HR22.out,HA22.out]);obtain⟨rc0,rc1,rc2,rc3,rc4,rc5,rc6⟩:=H.cells7 5 rfl;obtain⟨fr0,fr1,fr2,fr3,fr4,fr5,fr6⟩:=H.f7 5 rfl;have HF:=Hd (H.set7 5 rfl (.int .i64 18) (.slice (some ⟨wr.heap.size,0,none⟩) 1 1) (.slice none 0 0) (.slice A9 acc.length c9) (.int .i64 0) (.int .i64 (1+(r22:Int))) (.string ⟨#[]⟩));go_wp2;refine a0y HF 5 rfl results17 rfl rfl ?_;rw[HX.out];exact⟨_,_,_,_,_,_,rfl,_,HK,Sep.pick HF [0,2,1] rfl (by decide)⟩
theorem d1z (q b:Nat)(h5:¬ tv xs a 5=0)(hq:tv xs (ta xs a 5) nl=q)(hs:L[q]?=some s)(hb:ta xs (ta xs (ta xs a 5) nl) 12=b)(hk:tv xs (ta xs (ta xs a 5) nl) 12=7)(hs4:s.length≤4)(H:Sep w0 w l)(hi:l[i]?=some (TB g A n c a))(hI:Ints w0 A n xs)(ha:a≤n)(hL:a5l w0 l i g A n c Al nl L):
  Calls prog 17 #[.pointer (some ⟨g,0,none⟩),.slice Al nl cl] w (a2m w0 l i g A n c (kOp7 xs b q s)):=by
 obtain⟨KS,hKS⟩:∃ q0,kOp7 xs b q s=q0:=⟨_,rfl⟩;rw[hKS];have HKS:=Hd hKS;clear hKS;have HXL:=Hd hI.len;have HI:=Hd hI;have hnle:=hI.le;have hll:=hL.1;have hln:=hL.2.1;have HLL:=Hd hll;have HLK:=Hd hL;have HK:Hid (KT l i (TB g A n c a) l):=Hd ⟨hi,fun _=>rfl⟩;clear hll;have h1:=(((H.allocBox w.heap.size 37 zN rfl).addNil 3).addNil 3).addNil 3
 go_enter func17,ntmps17
 go_upto_region 1 with fail
 generalize w.alloc (.cells zA 37)=W at *;generalize w.heap.size=gr at *;clear H hi hI hL;have H:Hid (Sep w0 W ([oN,oN,oN,.box gr 37 zN]++l)):=Hd h1;clear h1;have hnl:0<nl:=by have h8:L.length=nl:=HLL.out;have:=(lL hs);omega
 have dn:((nl:Int)==0)=false:=by simp;omega
 have HQ0:=Hd hq;have HB0:=Hd hb;have HK0:=Hd hk;have HS0:=Hd hs;have h5n:=Hd h5;clear hq hb hk hs h5
 go_wp2_with fail
 refine(a0s (5) H HK HI ha (by omega) ⟨by omega,by omega⟩).mono ?_;clear H HK;rintro e1 w1 ⟨r1,a1,l1,rfl,HR1,br1,HA1,ba1,HK,H⟩;have d5:((r1:Int)==0)=false:=by have h8:=HR1.out;have h9:=h5n.out;rw[h8] at h9;simpa using h9
 go_wp2_with fail
 refine(a0s ((nl:Int)) H HK HI ba1 (by omega) ⟨by omega,by omega⟩).mono ?_;clear H HK;rintro e2 w2 ⟨r2,a2,l2,rfl,HR2,br2,HA2,ba2,HK,H⟩;obtain rfl:r2=q:=by have h8:=HR2.out;have h9:=HQ0.out;rw[HA1.out,h8] at h9;omega
 obtain⟨la,Bs,ms,cap,hAl,hmc,hst⟩:=HLK.out.2.2 r2 s HS0;subst hAl;have HST:=Hd hst;obtain⟨hlb,hcl,hIs⟩:=hst w2 a2 l2 HK H.rest_;have HSL:=Hd hIs.len;have hmsl:=hIs.le;have hr2:r2<nl:=by omega
 clear hst hIs hlb
 go_wp2_with fail
 clear hcl;refine(a0s (12) H HK HI ba2 (by omega) ⟨by omega,by omega⟩).mono ?_;clear H HK;rintro e3 w3 ⟨r3,a3,l3,rfl,HR3,br3,HA3,ba3,HK,H⟩;obtain rfl:r3=7:=by have h8:=HR3.out;have h9:=HK0.out;rw[HA1.out,HA2.out,h8] at h9;omega
 obtain rfl:a3=b:=by have h8:=HA3.out;have h9:=HB0.out;rw[HA1.out,HA2.out,h8] at h9;exact h9
 clear HR1 HR2 HR3 HQ0 HB0 HK0 h5n d5 dn
 go_wp2_with fail
 replace H:Hid (Sep w0 w3 ([oN,oN,oN,oN,.box gr 37 zN]++l3)):=Hd (H.addNil 3);replace H:Hid (Sep w0 w3 ([oN,oN,oN,oN,oN,.box gr 37 zN]++l3)):=Hd (H.addNil 3)
 go_loopw [238,22,23] (fun iv av bv wr=>∃(j:Nat) (vl vh:Value) (lo hi:List Int) (a9:Nat) (l9:List a0i),vl=av∧vh=bv∧iv=.int .i64 j∧j≤ms∧lo.length=j∧a9≤n∧((lo++(a4o xs (ms-j) a9).1.1,hi++(a4o xs (ms-j) a9).1.2),(a4o xs (ms-j) a9).2)=a4o xs ms a3∧KT l i (TB g A n c a9) l9∧Sep w0 wr ([.own 3 vl lo.length lo,.own 3 vh lo.length hi,oN,oN,oN,.box gr 37 zN]++l9)) (fun iv _ _ _=>ms-(intOf iv).toNat)
 case atStart=>exact⟨0,_,_,[],[],a3,_,rfl,rfl,rfl,by omega,rfl,ba3,rfl,HK,H⟩
 case round =>
  clear H HK;obtain⟨j,vl,vh,lo,hi,a9,l9,rfl,rfl,rfl,hj,hal,ba9,hq,hK,hS⟩:=hrel;have H:=Hd hS;have HK:=Hd hK;have HQ:=Hd hq;have HAL:=Hd hal;clear hS hK hq hal;by_cases hlt:j<ms
  ·obtain⟨m,hm⟩:∃ m,ms-j=m+1:=⟨ms-j-1,by omega⟩;have HM:=Hd (show ms-(j+1)=m by omega);have HQD:=Hd (show((lo++(a4o xs (m+1) a9).1.1,hi++(a4o xs (m+1) a9).1.2),(a4o xs (m+1) a9).2)=a4o xs ms a3 by rw[←hm];exact HQ);clear hm
   go_wp2_with fail
   refine(a0s (3) H HK HI ba9 (by omega) ⟨by omega,by omega⟩).mono ?_;clear H HK;rintro e21 w21 ⟨r21,a21,l21,rfl,HR21,br21,HA21,ba21,HK,H⟩
   go_wp2_with (at_builtin;refine a0u rfl (.tmp 240) (.tmp 243) 23 3 rfl underlying23 Tryz.infoInt H.out 0 rfl rfl ((r21:Int)) ⟨by omega,by omega⟩ _ rfl ?c1 ?_)
   case c1=>have h8:=HAL.out;have h9:=hs4;have h10:=HSL.out;omega
   intro vlo wlo h';replace H:Hid (Sep w0 wlo ([.own 3 vlo (lo.length+1) (lo++[(r21:Int)]),.own 3 vh lo.length hi,oN,oN,oN,.box gr 37 zN]++l21)):=Hd h';clear h'
   go_wp2_with fail
   refine(a0s (3) H HK HI ba21 (by omega) ⟨by omega,by omega⟩).mono ?_;clear H HK;rintro e22 w22 ⟨r22,a22,l22,rfl,HR22,br22,HA22,ba22,HK,H⟩
   go_wp2_with (at_builtin;refine a0u rfl (.tmp 245) (.tmp 248) 23 3 rfl underlying23 Tryz.infoInt H.out 1 rfl rfl ((r22:Int)) ⟨by omega,by omega⟩ _ rfl ?c1 ?_)
   case c1=>have h8:=HAL.out;have h9:=hs4;have h10:=HSL.out;omega
   intro vhi whi h';replace H:Hid (Sep w0 whi ([.own 3 vlo (lo.length+1) (lo++[(r21:Int)]),.own 3 vhi (lo.length+1) (hi++[(r22:Int)]),oN,oN,oN,.box gr 37 zN]++l22)):=Hd h';clear h';have HQE:=Hd (show(((lo++[(r21:Int)])++(a4o xs m a22).1.1,(hi++[(r22:Int)])++(a4o xs m a22).1.2),(a4o xs m a22).2)=a4o xs ms a3 by have h7:=HQD.out;rw[a4o,HR21.out,HA21.out,HR22.out,HA22.out] at h7;rw[List.append_assoc,List.append_assoc];exact h7);go_wp2;go_roundw
   case rel=>exact⟨j+1,_,_,lo++[(r21:Int)],hi++[(r22:Int)],a22,_,rfl,rfl,by go_num,by omega,by rw[List.length_append,List.length_singleton,HAL.out],ba22,by rw[HM.out];exact HQE,HK,by rw[List.length_append,List.length_singleton];exact H⟩
   case measure=>simp[intOf];omega
  ·have hjm:j=ms:=by omega
   subst hjm;have HE:=Hd (show a4o xs j a3=((lo,hi),a9) by rw[←HQ.out,Nat.sub_self,a4o,List.append_nil,List.append_nil]);obtain⟨A9,c9,hv,hmc9,_,_⟩:=(H.ownS 0 rfl).form;subst hv;obtain⟨A8,c8,hv,hmc8,_,_⟩:=(H.ownS 1 rfl).form;subst hv;replace H:=Hd (H.litP 3 #[.int .i64 ((r2:Int))] [((r2:Int))] 1 rfl (by first|(simp[a1d];done)|(simp[a1d];omega)))
   go_wp2_with (at_builtin;refine a0f rfl (.tmp 253) (.tmp 254) 23 3 rfl underlying23 Tryz.infoInt H.out 1 rfl rfl A8 lo.length c8 hi rfl ((H.out.ownInts 2 rfl).2.2) ?c1 ?_)
   case c1=>have h8:=HAL.out;have h9:=hs4;have h10:=HSL.out;omega
   intro vj wj h';replace H:Hid (Sep w0 wj ([.own 3 (.slice (some ⟨wr.heap.size,0,none⟩) 1 1) 1 [((r2:Int))],.own 3 vj (lo.length+lo.length) (lo++hi),.own 3 (.slice A8 lo.length c8) lo.length hi,oN,oN,oN,.box gr 37 zN]++l9)):=Hd h';clear h';obtain⟨A7,c7,hv,hmc7,_,_⟩:=(H.ownS 1 rfl).form;subst hv
   go_wp2_with fail
   refine(b7r H HK HI ba9).mono ?_;rintro e23 w23 ⟨rfl,l23,hK,hS⟩;have ba23:=b3q HXL ba9;have hfN:=a7r xs a9;obtain⟨⟨x23,a23⟩,hx⟩:∃ q,kNum xs a9=q:=⟨_,rfl⟩;rw[hx] at ba23 hK hfN ⊢;have HN23:=Hd hx;replace HK:=Hd hK;have HF23:=Hd hfN;replace H:Hid (Sep w0 w23 ([.own 3 (.slice (some ⟨wr.heap.size,0,none⟩) 1 1) 1 [((r2:Int))],.own 3 (.slice A7 (lo.length+lo.length) c7) (lo.length+lo.length) (lo++hi),.own 3 (.slice A8 lo.length c8) lo.length hi,oN,oN,oN,.box gr 37 zN]++l23)):=Hd hS;clear hx hK hS hfN;simp only at ba23;have HX:=Hd (show KS=(ndV 16 [(r2:Int)] [] (lo++hi) x23 0,a23) by rw[←HKS.out,kOp7,HSL.out,HE.out,HN23.out]);obtain⟨rc0,rc1,rc2,rc3,rc4,rc5,rc6⟩:=H.cells7 6 rfl;obtain⟨fr0,fr1,fr2,fr3,fr4,fr5,fr6⟩:=H.f7 6 rfl;have HF:=Hd (H.set7 6 rfl (.int .i64 16) (.slice (some ⟨wr.heap.size,0,none⟩) 1 1) (.slice none 0 0) (.slice A7 (lo.length+lo.length) c7) (.int .i64 x23) (.int .i64 0) (.string ⟨#[]⟩));go_wp2;refine a0y HF 6 rfl results17 rfl rfl ?_;rw[HX.out];exact⟨_,_,_,_,_,_,rfl,_,HK,Sep.pick HF [0,3,1] rfl (by decide)⟩
def kOp3 (xs:List Int) (b q:Nat) (s:List Int) (L:List (List Int)):a0p × Nat :=
 (ndV 12 [(q:Int),(a2e 0 L s).getD (tv xs b (a2e 0 L s).length).toNat 0,(a2e 0 L s).getD (tv xs (ta xs b (a2e 0 L s).length) (a2e 0 L s).length).toNat 0] [] [] 0 0,ta xs (ta xs b (a2e 0 L s).length) (a2e 0 L s).length)
def kAx (k:Nat):Nat→Nat→List Int
 | 0,_=>[]
 | m+1,j=>if j=k then kAx k m (j+1) else(j:Int)::kAx k m (j+1)
def kOp5 (xs:List Int) (b q:Nat) (s:List Int):a0p × Nat :=
 if 2<s.length then(ndV 4 [(q:Int)] [] [] 0 0,b)
 else(ndV 14 [(q:Int)] (s.take (tv xs b (s.length+1)).toNat++[1+tv xs (ta xs b (s.length+1)) 4]++s.drop (tv xs b (s.length+1)).toNat) (kAx (tv xs b (s.length+1)).toNat (s.length+1) 0) 0 0,ta xs (ta xs b (s.length+1)) 4)
theorem d1v (q b:Nat)(h5:¬ tv xs a 5=0)(hq:tv xs (ta xs a 5) nl=q)(hs:L[q]?=some s)(hb:ta xs (ta xs (ta xs a 5) nl) 12=b)(hk:tv xs (ta xs (ta xs a 5) nl) 12=3)(H:Sep w0 w l)(hi:l[i]?=some (TB g A n c a))(hI:Ints w0 A n xs)(ha:a≤n)(hL:a5l w0 l i g A n c Al nl L):
  Calls prog 17 #[.pointer (some ⟨g,0,none⟩),.slice Al nl cl] w (a2m w0 l i g A n c (kOp3 xs b q s L)):=by
 obtain⟨KS,hKS⟩:∃ q0,kOp3 xs b q s L=q0:=⟨_,rfl⟩;rw[hKS];have HKS:=Hd hKS;clear hKS;have HXL:=Hd hI.len;have HI:=Hd hI;have hnle:=hI.le;have hll:=hL.1;have hln:=hL.2.1;have HLL:=Hd hll;have HLK:=Hd hL;have HK:Hid (KT l i (TB g A n c a) l):=Hd ⟨hi,fun _=>rfl⟩;clear hll;have h1:=(((H.allocBox w.heap.size 37 zN rfl).addNil 3).addNil 3).addNil 3
 go_enter func17,ntmps17
 go_upto_region 1 with fail
 generalize w.alloc (.cells zA 37)=W at *;generalize w.heap.size=gr at *;clear H hi hI hL;have H:Hid (Sep w0 W ([oN,oN,oN,.box gr 37 zN]++l)):=Hd h1;clear h1;have hnl:0<nl:=by have h8:L.length=nl:=HLL.out;have:=(lL hs);omega
 have dn:((nl:Int)==0)=false:=by simp;omega
 have HQ0:=Hd hq;have HB0:=Hd hb;have HK0:=Hd hk;have HS0:=Hd hs;have h5n:=Hd h5;clear hq hb hk hs h5
 go_wp2_with fail
 refine(a0s (5) H HK HI ha (by omega) ⟨by omega,by omega⟩).mono ?_;clear H HK;rintro e1 w1 ⟨r1,a1,l1,rfl,HR1,br1,HA1,ba1,HK,H⟩;have d5:((r1:Int)==0)=false:=by have h8:=HR1.out;have h9:=h5n.out;rw[h8] at h9;simpa using h9
 go_wp2_with fail
 refine(a0s ((nl:Int)) H HK HI ba1 (by omega) ⟨by omega,by omega⟩).mono ?_;clear H HK;rintro e2 w2 ⟨r2,a2,l2,rfl,HR2,br2,HA2,ba2,HK,H⟩;obtain rfl:r2=q:=by have h8:=HR2.out;have h9:=HQ0.out;rw[HA1.out,h8] at h9;omega
 obtain⟨la,Bs,ms,cap,hAl,hmc,hst⟩:=HLK.out.2.2 r2 s HS0;subst hAl;have HST:=Hd hst;obtain⟨hlb,hcl,hIs⟩:=hst w2 a2 l2 HK H.rest_;have HSL:=Hd hIs.len;have hmsl:=hIs.le;have hr2:r2<nl:=by omega
 clear hst hIs hlb
 go_wp2_with fail
 clear hcl;refine(a0s (12) H HK HI ba2 (by omega) ⟨by omega,by omega⟩).mono ?_;clear H HK;rintro e3 w3 ⟨r3,a3,l3,rfl,HR3,br3,HA3,ba3,HK,H⟩;obtain rfl:r3=3:=by have h8:=HR3.out;have h9:=HK0.out;rw[HA1.out,HA2.out,h8] at h9;omega
 obtain rfl:a3=b:=by have h8:=HA3.out;have h9:=HB0.out;rw[HA1.out,HA2.out,h8] at h9;exact h9
 clear HR1 HR2 HR3 HQ0 HB0 HK0 h5n d5 dn
 go_wp2_with fail
 refine(c3v (c:=cap) (HLK.lils HK H.rest_) (HST _ _ _ HK H.rest_).2.2).mono ?_;rintro e9 w9 ⟨⟨v9,m9,rfl,hO⟩,hb9⟩;have HPOS:=Hd (a7t (k:=0) HS0);have HML:=Hd hO.len;have hm9:0<m9:=by have h8:=HML.out;have h9:=HPOS.out;omega
 obtain⟨gl,cl9,hv,_⟩:=hO.own hm9;subst hv;have hm900:m9≤900:=by have h8:=HML.out;have h9:=a7s s L 0;have h10:L.length=nl:=HLL.out;omega
 obtain⟨LS,hLS⟩:∃ q,a2e 0 L s=q:=⟨_,rfl⟩;rw[hLS] at hO;have HLS:=Hd hLS;have h9:=H.addOwn hb9 hO;replace H:Hid (Sep w0 w9 ([.own 3 (.slice (some ⟨gl,0,none⟩) m9 cl9) m9 LS,oN,oN,oN,.box gr 37 zN]++l3)):=Hd h9;have HMS:Hid (LS.length=m9):=Hd (by rw[←hLS];exact HML);clear hO hb9 h9 hLS HML HPOS;have b0:=a0m xs a3 ((m9:Int));have b1:=a3f xs a3 (show(0:Int)<(m9:Int) by omega);obtain⟨r4,hr⟩:∃ z,tv xs a3 ((m9:Int))=z:=⟨_,rfl⟩;rw[hr] at b0 b1;obtain⟨r4,rfl⟩:=eZ b0;have HR4:=Hd hr;have br4:(r4:Int)<(m9:Int):=b1;obtain⟨a4,ha4⟩:∃ z,ta xs a3 ((m9:Int))=z:=⟨_,rfl⟩;have HA4:=Hd ha4;clear hr ha4 b0 b1;have ba4:a4≤n:=by rw[←HA4.out];exact a1f _ HXL ba3
 have b0:=a0m xs a4 ((m9:Int));have b1:=a3f xs a4 (show(0:Int)<(m9:Int) by omega);obtain⟨r5,hr⟩:∃ z,tv xs a4 ((m9:Int))=z:=⟨_,rfl⟩;rw[hr] at b0 b1;obtain⟨r5,rfl⟩:=eZ b0;have HR5:=Hd hr;have br5:(r5:Int)<(m9:Int):=b1;obtain⟨a5,ha5⟩:∃ z,ta xs a4 ((m9:Int))=z:=⟨_,rfl⟩;have HA5:=Hd ha5;clear hr ha5 b0 b1;have ba5:a5≤n:=by rw[←HA5.out];exact a1f _ HXL ba4
 obtain⟨y4,hy⟩:∃ y,LS[r4]?=some y:=gE (by have h8:=HMS.out;omega);have HY4:=Hd hy;obtain⟨fy4,fz4⟩:=(H.own 0 rfl).2.1 y4 (mG hy);have hn4:r4<m9:=by omega
 clear hy;obtain⟨y5,hy⟩:∃ y,LS[r5]?=some y:=gE (by have h8:=HMS.out;omega);have HY5:=Hd hy;obtain⟨fy5,fz5⟩:=(H.own 0 rfl).2.1 y5 (mG hy);have hn5:r5<m9:=by omega
 clear hy
 go_upto_region 23 with fail
 have H0:=Hd H.drew;have c4:=(H0.own 0 rfl).cell HY4;have c5:=(H0.own 0 rfl).cell HY5;refine wp_region_held_drew (S:=(fun w'=>w'.cell? ⟨gl,r4,none⟩=some (.int .i64 y4)∧w'.cell? ⟨gl,r5,none⟩=some (.int .i64 y5))) (by kernel_rfl) ?_ (fun hq_=>?_)
 ·exact⟨c4,c5⟩
 refine zV 0 hq_ ?_;refine zV 1 hq_ ?_;refine zV 2 hq_ ?_;refine zV 3 hq_ ?_;refine zV 4 hq_ ?_;refine zV 8 hq_ ?_;refine zV 9 hq_ ?_;refine zV 10 hq_ ?_;refine zV 11 hq_ ?_;refine e1 5 fun K hK=>?_
 first|(refine effU ?_ ?_;(focus rfl))|(go_simp;(go_at_call 16;refine(a7x ((m9:Int)) H0 HK HI ba3 ⟨by omega,by omega⟩).mono ?_;rintro e4 w4 ⟨rfl,l4,hK,hS⟩;rw[HR4.out];rw[HA4.out] at hK;have HK4:=Hd hK;have H4:Hid (Sep w0 w4 ([.own 3 (.slice (some ⟨gl,0,none⟩) m9 cl9) m9 LS,oN,oN,oN,.box gr 37 zN]++l4)):=Hd hS;have d4:=(H4.own 0 rfl).cell HY4;have d5:=(H4.own 0 rfl).cell HY5;clear hK hS);go_wp2_with fail)
 refine zX hK (fun hq_=>?_) ⟨d4,d5⟩;refine zV 6 hq_ ?_;refine zV 7 hq_ ?_;refine e1 12 fun K hK=>?_
 first|(refine effU ?_ ?_;(focus rfl))|(go_simp;(go_at_call 16;refine(a7x ((m9:Int)) H4 HK4 HI ba4 ⟨by omega,by omega⟩).mono ?_;rintro e5 w5 ⟨rfl,l5,hK,hS⟩;rw[HR5.out];rw[HA5.out] at hK;have HK5:=Hd hK;have H5:Hid (Sep w0 w5 ([.own 3 (.slice (some ⟨gl,0,none⟩) m9 cl9) m9 LS,oN,oN,oN,.box gr 37 zN]++l5)):=Hd hS;have e4:=(H5.own 0 rfl).cell HY4;have e5:=(H5.own 0 rfl).cell HY5;clear hK hS);go_wp2_with fail)
 refine zX hK (fun hq_=>?_) ⟨e4,e5⟩;refine zV 13 hq_ ?_;refine zV 14 hq_ ?_;refine e1 15 fun K hK=>?_;go_simp;(try go_wp2_with fail);refine zX hK (fun hq_=>?_) ⟨a1j _ e4,a1j _ e5⟩;refine zV 16 hq_ ?_;refine e1 17 fun K hK=>?_;(have H6:Hid (Sep w0 (w5.alloc (.cells #[.int .i64 (r2:Int),.int .i64 y4,.int .i64 y5] 3)) ([.own 3 (.slice (some ⟨w5.heap.size,0,none⟩) 3 3) 3 [(r2:Int),y4,y5],.own 3 (.slice (some ⟨gl,0,none⟩) m9 cl9) m9 LS,oN,oN,oN,.box gr 37 zN]++l5)):=Hd (H5.lit 3 #[.int .i64 (r2:Int),.int .i64 y4,.int .i64 y5] [(r2:Int),y4,y5] 3 _ rfl rfl (by simp[a1d];omega));obtain⟨rc0,rc1,rc2,rc3,rc4,rc5,rc6⟩:=H6.cells7 5 rfl;obtain⟨fr0,fr1,fr2,fr3,fr4,fr5,fr6⟩:=H6.f7 5 rfl;have HF:Hid (Sep w0 ((((((((w5.alloc (.cells #[.int .i64 (r2:Int),.int .i64 y4,.int .i64 y5] 3)).setCell ⟨gr,0,none⟩ (.int .i64 12)).setCell ⟨gr,1,none⟩ (.slice (some ⟨w5.heap.size,0,none⟩) 3 3)).setCell ⟨gr,2,none⟩ (.slice none 0 0)).setCell ⟨gr,3,none⟩ (.slice none 0 0)).setCell ⟨gr,4,none⟩ (.int .i64 0)).setCell ⟨gr,5,none⟩ (.int .i64 0)).setCell ⟨gr,6,none⟩ (.string ⟨#[]⟩)) ([.own 3 (.slice (some ⟨w5.heap.size,0,none⟩) 3 3) 3 [(r2:Int),y4,y5],.own 3 (.slice (some ⟨gl,0,none⟩) m9 cl9) m9 LS,oN,oN,oN,.box gr 37 [.int .i64 12,.slice (some ⟨w5.heap.size,0,none⟩) 3 3,.slice none 0 0,.slice none 0 0,.int .i64 0,.int .i64 0,.string ⟨#[]⟩]]++l5)):=Hd (H6.set7 5 rfl (.int .i64 12) (.slice (some ⟨w5.heap.size,0,none⟩) 3 3) (.slice none 0 0) (.slice none 0 0) (.int .i64 0) (.int .i64 0) (.string ⟨#[]⟩));have f4:=(HF.own 1 rfl).cell HY4;have f5:=(HF.own 1 rfl).cell HY5;go_simp;try go_wp2_with fail);refine zX hK (fun hq_=>?_) ⟨f4,f5⟩;refine dN ?_;have HX:=Hd (show KS=(ndV 12 [(r2:Int),y4,y5] [] [] 0 0,a5) by rw[←HKS.out,kOp3,HLS.out,HMS.out,HR4.out,HA4.out,HR5.out,HA5.out,Int.toNat_natCast,Int.toNat_natCast,gD,gD,HY4.out,HY5.out];rfl);go_wp2;refine a0y HF 5 rfl results17 rfl rfl ?_;rw[HX.out];exact⟨_,_,_,_,_,_,rfl,_,HK5,Sep.pick HF [0,2,3] rfl (by decide)⟩
end Go.Proofs.YtajhdeddgdhccaaGreatDoor
