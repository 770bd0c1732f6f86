import Derived.Test.YtdcmanhgekjhgaaGreatDoorPbp
set_option maxRecDepth 100000
set_option maxHeartbeats 12800000
namespace Go.Proofs.YtdcmanhgekjhgaaGreatDoor
open Go.RowKit Go.Proofs.Tryz
variable {A Al:Option Addr} {L:List (List Int)} {a c cl g i n nl:Nat} {l:List a0e} {s xs:List Int} {w w0:World}
theorem a6v.app {P l0:List a0e}(h:a6v w0 l i g A n c Al nl L)(hK:KT l i (TB g A n c a) l0):a6v w0 (P++l0) (P.length+i) g A n c Al nl L :=
 ⟨h.1,h.2.1,fun j x hx=>by
  obtain⟨la,B,m,cap,e,hc,hs⟩:=h.2.2 j x hx;refine⟨la,B,m,cap,e,hc,fun w a' l1 hk H=>?_⟩;obtain⟨l2,rfl,hk2⟩:=hK.app hk
  exact hs w a' l2 hk2 H.rest_⟩
theorem d7i (q b:Nat)(h5:¬ tv xs a 5=0)(hq:tv xs (ta xs a 5) nl=q)(hs:L[q]?=some s)(hb:ta xs (ta xs (ta xs a 5) nl) 12=b)(hk:tv xs (ta xs (ta xs a 5) nl) 12=10)(H:Sep w0 w l)(hi:l[i]?=some (TB g A n c a))(hI:Ints w0 A n xs)(ha:a≤n)(hL:a6v w0 l i g A n c Al nl L):
  Calls prog 24 #[.pointer (some ⟨g,0,none⟩),.slice Al nl cl] w (a3g w0 l i g A n c (kDot xs L s q nl 0 b)):=by
 obtain⟨KS,hKS⟩:∃ q0,kDot xs L s q nl 0 b=q0:=⟨_,rfl⟩;rw[hKS];have HKS:=Hd hKS;clear hKS;have HXL:=Hd hI.len;have HI:=Hd hI;have hnle:=hI.le;have hll:=hL.1;have hln:=hL.2.1;have HLL:=Hd hll;have HLK:=Hd hL;have HK:Hid (KT l i (TB g A n c a) l):=Hd ⟨hi,fun _=>rfl⟩;clear hll;have h1:=(((H.allocBox w.heap.size 49 zN rfl).addNil 3).addNil 3).addNil 3
 go_enter func24,ntmps24
 go_upto_region 1 with fail
 generalize w.alloc (.cells zA 49)=W at *;generalize w.heap.size=gr at *;clear H hi hI hL;have H:Hid (Sep w0 W ([oN,oN,oN,.box gr 49 zN]++l)):=Hd h1;clear h1;have hnl:0<nl:=by have h8:L.length=nl:=HLL.out;have:=(lL hs);omega
 have dn:((nl:Int)==0)=false:=by simp;omega
 have HQ0:=Hd hq;have HB0:=Hd hb;have HK0:=Hd hk;have HS0:=Hd hs;have h5n:=Hd h5;clear hq hb hk hs h5
 go_wp2_with fail
 refine(a0x (5) H HK HI ha (by omega) ⟨by omega,by omega⟩).mono ?_;clear H HK;rintro e1 w1 ⟨r1,a1,l1,rfl,HR1,br1,HA1,ba1,HK,H⟩;have d5:((r1:Int)==0)=false:=by have h8:=HR1.out;have h9:=h5n.out;rw[h8] at h9;simpa using h9
 go_wp2_with fail
 refine(a0x ((nl:Int)) H HK HI ba1 (by omega) ⟨by omega,by omega⟩).mono ?_;clear H HK;rintro e2 w2 ⟨r2,a2,l2,rfl,HR2,br2,HA2,ba2,HK,H⟩;obtain rfl:r2=q:=by have h8:=HR2.out;have h9:=HQ0.out;rw[HA1.out,h8] at h9;omega
 obtain⟨la,Bs,ms,cap,hAl,hmc,hst⟩:=HLK.out.2.2 r2 s HS0;subst hAl;have HST:=Hd hst;obtain⟨hlb,hcl,hIs⟩:=hst w2 a2 l2 HK H.rest_;have HSL:=Hd hIs.len;have hmsl:=hIs.le;have hr2:r2<nl:=by omega
 clear hst hIs hlb
 go_wp2_with fail
 clear hcl;refine(a0x (12) H HK HI ba2 (by omega) ⟨by omega,by omega⟩).mono ?_;clear H HK;rintro e3 w3 ⟨r3,a3,l3,rfl,HR3,br3,HA3,ba3,HK,H⟩;obtain rfl:r3=10:=by have h8:=HR3.out;have h9:=HK0.out;rw[HA1.out,HA2.out,h8] at h9;omega
 obtain rfl:a3=b:=by have h8:=HA3.out;have h9:=HB0.out;rw[HA1.out,HA2.out,h8] at h9;exact h9
 clear HR1 HR2 HR3 HQ0 HB0 HK0 h5n d5 dn
 go_wp2_with fail
 refine(e7e r2 HS0 H ((d0i i).trans HK.out.1) HI ba3 (HLK.app HK)).mono ?_;rintro e9 w9 ⟨vA,mA,vB,mB,vC,mC,rfl,l8,hK9,hS9⟩;obtain⟨l9,rfl,hK⟩:=HK.app hK9;obtain⟨⟨nd,ad⟩,hd⟩:∃ z,kDot xs L s r2 nl 0 a3=z:=⟨_,rfl⟩;rw[hd] at hK hS9 ⊢;have HX:=Hd (show KS=(nd,ad) by rw[←HKS.out,hd]);replace HK:=Hd hK;obtain⟨AA,cA,hv,_,_,_⟩:=(hS9.ownS 0 rfl).form;subst hv;obtain⟨AB,cB,hv,_,_,_⟩:=(hS9.ownS 1 rfl).form;subst hv;obtain⟨AC,cC,hv,_,_,_⟩:=(hS9.ownS 2 rfl).form;subst hv;replace H:Hid (Sep w0 w9 ([.own 3 (.slice AA mA cA) mA nd.ins,.own 3 (.slice AB mB cB) mB nd.shape,.own 3 (.slice AC mC cC) mC nd.a,oN,oN,oN,.box gr 49 zN]++l9)):=Hd hS9;clear hd hK hK9 hS9;obtain⟨rc0,rc1,rc2,rc3,rc4,rc5,rc6⟩:=H.cells7 6 rfl;obtain⟨fr0,fr1,fr2,fr3,fr4,fr5,fr6⟩:=H.f7 6 rfl;have HF:=Hd (H.set7 6 rfl (.int .i64 nd.op) (.slice AA mA cA) (.slice AB mB cB) (.slice AC mC cC) (.int .i64 nd.n) (.int .i64 nd.how) (.string nd.note));go_wp2;refine a1g HF 6 rfl results24 rfl rfl ?_;rw[HX.out];exact⟨_,_,_,_,_,_,rfl,_,HK,Sep.pick HF [0,1,2] rfl (by decide)⟩
theorem e2c (q b:Nat)(h5:¬ tv xs a 5=0)(hq:tv xs (ta xs a 5) nl=q)(hs:L[q]?=some s)(hb:ta xs (ta xs (ta xs a 5) nl) 12=b)(hk:tv xs (ta xs (ta xs a 5) nl) 12=6)(hs4:s.length≤4∧∀ x∈s,0≤x∧x≤32)(H:Sep w0 w l)(hi:l[i]?=some (TB g A n c a))(hI:Ints w0 A n xs)(ha:a≤n)(hL:a6v w0 l i g A n c Al nl L):
  Calls prog 24 #[.pointer (some ⟨g,0,none⟩),.slice Al nl cl] w (a3g w0 l i g A n c (kOp6 xs b q s)):=by
 obtain⟨KS,hKS⟩:∃ q0,kOp6 xs b q s=q0:=⟨_,rfl⟩;rw[hKS];have HKS:=Hd hKS;clear hKS;have HXL:=Hd hI.len;have HI:=Hd hI;have hnle:=hI.le;have hll:=hL.1;have hln:=hL.2.1;have HLL:=Hd hll;have HLK:=Hd hL;have HK:Hid (KT l i (TB g A n c a) l):=Hd ⟨hi,fun _=>rfl⟩;clear hll;have h1:=(((H.allocBox w.heap.size 49 zN rfl).addNil 3).addNil 3).addNil 3
 go_enter func24,ntmps24
 go_upto_region 1 with fail
 generalize w.alloc (.cells zA 49)=W at *;generalize w.heap.size=gr at *;clear H hi hI hL;have H:Hid (Sep w0 W ([oN,oN,oN,.box gr 49 zN]++l)):=Hd h1;clear h1;have hnl:0<nl:=by have h8:L.length=nl:=HLL.out;have:=(lL hs);omega
 have dn:((nl:Int)==0)=false:=by simp;omega
 have HQ0:=Hd hq;have HB0:=Hd hb;have HK0:=Hd hk;have HS0:=Hd hs;have h5n:=Hd h5;clear hq hb hk hs h5
 go_wp2_with fail
 refine(a0x (5) H HK HI ha (by omega) ⟨by omega,by omega⟩).mono ?_;clear H HK;rintro e1 w1 ⟨r1,a1,l1,rfl,HR1,br1,HA1,ba1,HK,H⟩;have d5:((r1:Int)==0)=false:=by have h8:=HR1.out;have h9:=h5n.out;rw[h8] at h9;simpa using h9
 go_wp2_with fail
 refine(a0x ((nl:Int)) H HK HI ba1 (by omega) ⟨by omega,by omega⟩).mono ?_;clear H HK;rintro e2 w2 ⟨r2,a2,l2,rfl,HR2,br2,HA2,ba2,HK,H⟩;obtain rfl:r2=q:=by have h8:=HR2.out;have h9:=HQ0.out;rw[HA1.out,h8] at h9;omega
 obtain⟨la,Bs,ms,cap,hAl,hmc,hst⟩:=HLK.out.2.2 r2 s HS0;subst hAl;have HST:=Hd hst;obtain⟨hlb,hcl,hIs⟩:=hst w2 a2 l2 HK H.rest_;have HSL:=Hd hIs.len;have hmsl:=hIs.le;have hr2:r2<nl:=by omega
 clear hst hIs hlb
 go_wp2_with fail
 clear hcl;refine(a0x (12) H HK HI ba2 (by omega) ⟨by omega,by omega⟩).mono ?_;clear H HK;rintro e3 w3 ⟨r3,a3,l3,rfl,HR3,br3,HA3,ba3,HK,H⟩;obtain rfl:r3=6:=by have h8:=HR3.out;have h9:=HK0.out;rw[HA1.out,HA2.out,h8] at h9;omega
 obtain rfl:a3=b:=by have h8:=HA3.out;have h9:=HB0.out;rw[HA1.out,HA2.out,h8] at h9;exact h9
 clear HR1 HR2 HR3 HQ0 HB0 HK0 h5n d5 dn
 go_wp2_with fail
 replace H:Hid (Sep w0 w3 ([oN,oN,oN,oN,.box gr 49 zN]++l3)):=Hd (H.addNil 3);replace H:Hid (Sep w0 w3 ([oN,oN,oN,oN,oN,.box gr 49 zN]++l3)):=Hd (H.addNil 3)
 go_loopw [201,18,19] (fun iv av bv wr=>∃(j:Nat) (vl vh:Value) (lo hi:List Int) (a9:Nat) (l9:List a0e),vl=av∧vh=bv∧iv=.int .i64 j∧j≤ms∧lo.length=j∧a9≤n∧((lo++(a5m xs (s.drop j) a9).1.1,hi++(a5m xs (s.drop j) a9).1.2),(a5m xs (s.drop j) a9).2)=a5m xs s a3∧KT l i (TB g A n c a9) l9∧Sep w0 wr ([.own 3 vl lo.length lo,.own 3 vh lo.length hi,oN,oN,oN,.box gr 49 zN]++l9)) (fun iv _ _ _=>ms-(intOf iv).toNat)
 case atStart=>exact⟨0,_,_,[],[],a3,_,rfl,rfl,rfl,by omega,rfl,ba3,rfl,HK,H⟩
 case round =>
  clear H HK;obtain⟨j,vl,vh,lo,hi,a9,l9,rfl,rfl,rfl,hj,hal,ba9,hq,hK,hS⟩:=hrel;have H:=Hd hS;have HK:=Hd hK;have HQ:=Hd hq;have HAL:=Hd hal;clear hS hK hq hal;by_cases hlt:j<ms
  ·obtain⟨sa,x,hsA,_,hx,hcx,_⟩:=((HST _ _ _ HK H.rest_).2.2).at_ (k:=j) hlt;subst hsA;obtain⟨hx0,hx32⟩:=hs4.2 x (mG hx);obtain⟨xn,rfl⟩:=eZ hx0;have hxn:xn≤32:=by omega
   have HQD:=Hd (show((lo++(a5m xs ((xn:Int)::s.drop (j+1)) a9).1.1,hi++(a5m xs ((xn:Int)::s.drop (j+1)) a9).1.2),(a5m xs ((xn:Int)::s.drop (j+1)) a9).2)=a5m xs s a3 by rw[←b1a hx];exact HQ);have HXN:=Hd hx;clear hx hx0 hx32
   go_wp2_with fail
   clear hcx;refine(a0x ((xn:Int)+1) H HK HI ba9 (by omega) ⟨by omega,by omega⟩).mono ?_;clear H HK;rintro e21 w21 ⟨r21,a21,l21,rfl,HR21,br21,HA21,ba21,HK,H⟩;have hcy:=((HST _ _ _ HK H.rest_).2.2).get HXN;have hlal:lo.length≤90000:=by have h8:=HAL.out;have h9:=hs4.1;have h10:=HSL.out;omega
   have hrx:r21≤xn:=by omega
   have hw1:IntKind.i64.wrap ((xn:Int)-(r21:Int))=(xn:Int)-(r21:Int):=IntWalk.i64_in _ ⟨by omega,by omega⟩;have hw2:IntKind.i64.wrap ((xn:Int)-(r21:Int)+1)=(xn:Int)-(r21:Int)+1:=IntWalk.i64_in _ ⟨by omega,by omega⟩
   go_upto_region 52 with fail
   have H0:=Hd H.drew;refine wp_region_held_drew (S:=(fun w'=>w'.cell? (sa.add j)=some (.int .i64 (xn:Int)))) (by kernel_rfl) ?_ (fun hq_=>?_)
   ·exact hcy
   refine zV 0 hq_ ?_;refine zV 1 hq_ ?_;refine zV 4 hq_ ?_;refine zV 5 hq_ ?_;refine zV 6 hq_ ?_;refine zV 7 hq_ ?_;refine zV 8 hq_ ?_;refine zV 9 hq_ ?_;refine zV 10 hq_ ?_;refine zV 11 hq_ ?_;refine zV 12 hq_ ?_;refine e1 2 fun K hK=>?_;go_simp;(try go_wp2_with fail);refine zX hK (fun hq_=>?_) (a1u _ hcy);refine e1 3 fun K hK=>?_;(refine a0n rfl (.tmp 211) (.tmp 213) 25 3 rfl underlying25 Tryz.infoInt H0.out 0 rfl rfl (r21:Int) ⟨by omega,by omega⟩ _ rfl ?_ ?_;(focus omega);intro v3 w3 h3;have H3:Hid (Sep w0 w3 ([.own 3 v3 (lo.length+1) (lo++[(r21:Int)]),.own 3 vh lo.length hi,oN,oN,oN,.box gr 49 zN]++l21)):=Hd h3;have hcy3:=(HST.out _ _ _ HK.out H3.rest_).2.2.get HXN.out;clear h3);refine zX hK fun hq_=>?_;refine e1 13 fun K hK=>?_
   first|(refine effU ?_ ?_;(focus rfl))|(go_simp;(go_at_call 23;refine(b0d ((xn:Int)-(r21:Int)+1) H3 HK HI ba21 ⟨by omega,by omega⟩).mono ?_;rintro e30 w30 ⟨rfl,l30,hK30,hS30⟩;have b0:=a0q xs a21 ((xn:Int)-(r21:Int)+1);have b1:=a4b xs a21 (show(0:Int)<(xn:Int)-(r21:Int)+1 by omega);obtain⟨r30,hr30⟩:∃ z,tv xs a21 ((xn:Int)-(r21:Int)+1)=z:=⟨_,rfl⟩;rw[hr30] at b0 b1 ⊢;obtain⟨r30,rfl⟩:=eZ b0;have HR30:=Hd hr30;obtain⟨a30,ha30⟩:∃ z,ta xs a21 ((xn:Int)-(r21:Int)+1)=z:=⟨_,rfl⟩;have ba30:=a1p ((xn:Int)-(r21:Int)+1) HXL ba21;rw[ha30] at ba30 hK30;have HA30:=Hd ha30;have HK30:=Hd hK30;have H4:Hid (Sep w0 w30 ([.own 3 v3 (lo.length+1) (lo++[(r21:Int)]),.own 3 vh lo.length hi,oN,oN,oN,.box gr 49 zN]++l30)):=Hd hS30;have hcy4:=(HST _ _ _ HK30 H4.rest_).2.2.get HXN;clear hr30 ha30 hK30 hS30 b0);go_wp2_with fail)
   refine zX hK fun hq_=>?_;refine e1 14 fun K hK=>?_;go_simp;(try go_wp2_with fail);refine zX hK (fun hq_=>?_) (a1u _ hcy4);refine e1 15 fun K hK=>?_;(refine a0n rfl (.tmp 215) (.tmp 225) 25 3 rfl underlying25 Tryz.infoInt H4.out 1 rfl rfl (r30:Int) ⟨by omega,by omega⟩ _ rfl ?_ ?_;(focus omega);intro v5 w5 h5;have H5:Hid (Sep w0 w5 ([.own 3 v3 (lo.length+1) (lo++[(r21:Int)]),.own 3 v5 (lo.length+1) (hi++[(r30:Int)]),oN,oN,oN,.box gr 49 zN]++l30)):=Hd h5;have hcy5:=(HST.out _ _ _ HK30.out H5.rest_).2.2.get HXN.out;clear h5);refine zX hK fun hq_=>?_;refine zV 16 hq_ ?_;refine zV 17 hq_ ?_;refine dN ?_;have HQE:=Hd (d2w HQD.out HR21.out HA21.out HR30.out HA30.out);go_wp2;go_roundw
   case rel=>exact⟨j+1,_,_,lo++[(r21:Int)],hi++[(r30:Int)],a30,_,rfl,rfl,by go_num,by omega,by rw[List.length_append,List.length_singleton,HAL.out],ba30,HQE,HK30,by rw[List.length_append,List.length_singleton];exact H5⟩
   case measure=>simp[intOf];omega
  ·have hjm:j=ms:=by omega
   subst hjm;have HE:=Hd (show a5m xs s a3=((lo,hi),a9) by rw[←HQ.out,List.drop_eq_nil_of_le (by have h8:=HSL.out;omega),a5m,List.append_nil,List.append_nil]);obtain⟨A9,c9,hv,hmc9,_,_⟩:=(H.ownS 0 rfl).form;subst hv;obtain⟨A8,c8,hv,hmc8,_,_⟩:=(H.ownS 1 rfl).form;subst hv;replace H:=Hd (H.litP 3 #[.int .i64 ((r2:Int))] [((r2:Int))] 1 rfl (by first|(simp[a1e];done)|(simp[a1e];omega)))
   go_wp2_with (at_builtin;refine a0g rfl (.tmp 230) (.tmp 231) 25 3 rfl underlying25 Tryz.infoInt H.out 1 rfl rfl A8 lo.length c8 hi rfl ((H.out.ownInts 2 rfl).2.2) ?c1 ?_)
   case c1=>have h8:=HAL.out;have h9:=hs4.1;have h10:=HSL.out;omega
   intro vj wj h';replace H:Hid (Sep w0 wj ([.own 3 (.slice (some ⟨wr.heap.size,0,none⟩) 1 1) 1 [((r2:Int))],.own 3 vj (lo.length+lo.length) (lo++hi),.own 3 (.slice A8 lo.length c8) lo.length hi,oN,oN,oN,.box gr 49 zN]++l9)):=Hd h';clear h';obtain⟨A7,c7,hv,hmc7,_,_⟩:=(H.ownS 1 rfl).form;subst hv;have HX:=Hd (show KS=(ndV 15 [(r2:Int)] [] (lo++hi) 0 0,a9) by rw[←HKS.out,kOp6,HE.out]);obtain⟨rc0,rc1,rc2,rc3,rc4,rc5,rc6⟩:=H.cells7 6 rfl;obtain⟨fr0,fr1,fr2,fr3,fr4,fr5,fr6⟩:=H.f7 6 rfl;have HF:=Hd (H.set7 6 rfl (.int .i64 15) (.slice (some ⟨wr.heap.size,0,none⟩) 1 1) (.slice none 0 0) (.slice A7 (lo.length+lo.length) c7) (.int .i64 0) (.int .i64 0) (.string ⟨#[]⟩));go_wp2;refine a1g HF 6 rfl results24 rfl rfl ?_;rw[HX.out];exact⟨_,_,_,_,_,_,rfl,_,HK,Sep.pick HF [0,3,1] rfl (by decide)⟩
noncomputable def kOp (K:Int) (xs:List Int) (b q:Nat) (s:List Int) (L:List (List Int)):a0l × Nat :=
 if K=0 then kOp0 xs b q else if K=1 then kOp1 xs b q s L else if K=2 then kOp1 xs b q s L else if K=3 then kOp3 xs b q s L else if K=4 then kOp4 xs b q s else if K=5 then kOp5 xs b q s
 else if K=6 then kOp6 xs b q s else if K=7 then kOp7 xs b q s else if K=8 then kOp8 xs b q s L else if K=9 then kOp9 xs b q s else if K=10 then kDot xs L s q L.length 0 b else c5n xs b q s
noncomputable def a7a (xs:List Int) (a:Nat) (L:List (List Int)):a0l × Nat :=
 if L.length=0 then kSrc xs a else if tv xs a 5=0 then kSrc xs (ta xs a 5)
 else kOp (tv xs (ta xs (ta xs a 5) L.length) 12) xs (ta xs (ta xs (ta xs a 5) L.length) 12) (tv xs (ta xs a 5) L.length).toNat (L.getD (tv xs (ta xs a 5) L.length).toNat []) L
theorem e6o (hok:∀ s∈L,s.length≤4∧∀ x∈s,0≤x∧x≤32)(H:Sep w0 w l)(hi:l[i]?=some (TB g A n c a))(hI:Ints w0 A n xs)(ha:a≤n)(hL:a6v w0 l i g A n c Al nl L):
  Calls prog 24 #[.pointer (some ⟨g,0,none⟩),.slice Al nl cl] w (a3g w0 l i g A n c (a7a xs a L)):=by
 have hl:=hL.1;rcases Nat.eq_zero_or_pos nl with e|e
 ·rw[a7a,iP (by omega)];exact d7k e H hi hI ha hL
 ·rw[a7a,iN (by omega)];by_cases h5:tv xs a 5=0
  ·rw[iP h5];exact d7l e h5 H hi hI ha hL
  ·rw[iN h5,hl];obtain⟨q,hq⟩:=eZ (a0q xs (ta xs a 5) nl);have hqn:=a4b xs (ta xs a 5) (show(0:Int)<nl by omega);obtain⟨s,hs⟩:∃ s,L[q]?=some s:=gE (by omega);have hsk:=hok s (mG hs);have hgd:L.getD q []=s:=by rw[gD,hs];rfl
   rw[hq,Int.toNat_natCast,hgd];have k0:=a0q xs (ta xs (ta xs a 5) nl) 12;have k1:=a4b xs (ta xs (ta xs a 5) nl) (show(0:Int)<12 by omega);obtain⟨K,hK⟩:∃ K,tv xs (ta xs (ta xs a 5) nl) 12=K:=⟨_,rfl⟩;rw[hK] at k0 k1 ⊢;have hcase:K=0∨K=1∨K=2∨K=3∨K=4∨K=5∨K=6∨K=7∨K=8∨K=9∨K=10∨K=11:=by omega
   unfold kOp;rcases hcase with rfl|rfl|rfl|rfl|rfl|rfl|rfl|rfl|rfl|rfl|rfl|rfl
   ·rw[iP rfl];exact e1w q _ h5 hq hs rfl hK H hi hI ha hL
   ·rw[iN (by decide)];rw[iP rfl];exact e1x q _ h5 hq hs rfl hK H hi hI ha hL
   ·rw[iN (by decide)];rw[iN (by decide)];rw[iP rfl];exact e1y q _ h5 hq hs rfl hK H hi hI ha hL
   ·rw[iN (by decide)];rw[iN (by decide)];rw[iN (by decide)];rw[iP rfl];exact e1z q _ h5 hq hs rfl hK H hi hI ha hL
   ·rw[iN (by decide)];rw[iN (by decide)];rw[iN (by decide)];rw[iN (by decide)];rw[iP rfl];exact e2a q _ h5 hq hs rfl hK hsk.1 H hi hI ha hL
   ·rw[iN (by decide)];rw[iN (by decide)];rw[iN (by decide)];rw[iN (by decide)];rw[iN (by decide)];rw[iP rfl];exact e2b q _ h5 hq hs rfl hK H hi hI ha hL
   ·rw[iN (by decide)];rw[iN (by decide)];rw[iN (by decide)];rw[iN (by decide)];rw[iN (by decide)];rw[iN (by decide)];rw[iP rfl];exact e2c q _ h5 hq hs rfl hK hsk H hi hI ha hL
   ·rw[iN (by decide)];rw[iN (by decide)];rw[iN (by decide)];rw[iN (by decide)];rw[iN (by decide)];rw[iN (by decide)];rw[iN (by decide)];rw[iP rfl];exact e2d q _ h5 hq hs rfl hK hsk.1 H hi hI ha hL
   ·rw[iN (by decide)];rw[iN (by decide)];rw[iN (by decide)];rw[iN (by decide)];rw[iN (by decide)];rw[iN (by decide)];rw[iN (by decide)];rw[iN (by decide)];rw[iP rfl];exact e2e q _ h5 hq hs rfl hK H hi hI ha hL
   ·rw[iN (by decide)];rw[iN (by decide)];rw[iN (by decide)];rw[iN (by decide)];rw[iN (by decide)];rw[iN (by decide)];rw[iN (by decide)];rw[iN (by decide)];rw[iN (by decide)];rw[iP rfl];exact e2f q _ h5 hq hs rfl hK hsk.1 H hi hI ha hL
   ·rw[iN (by decide)];rw[iN (by decide)];rw[iN (by decide)];rw[iN (by decide)];rw[iN (by decide)];rw[iN (by decide)];rw[iN (by decide)];rw[iN (by decide)];rw[iN (by decide)];rw[iN (by decide)];rw[iP rfl];rw[hl];exact d7i q _ h5 hq hs rfl hK H hi hI ha hL
   ·rw[iN (by decide)];rw[iN (by decide)];rw[iN (by decide)];rw[iN (by decide)];rw[iN (by decide)];rw[iN (by decide)];rw[iN (by decide)];rw[iN (by decide)];rw[iN (by decide)];rw[iN (by decide)];rw[iN (by decide)];exact d7j q _ h5 hq hs rfl hK H hi hI ha hL
structure b2e (m n:Nat) (r:a0l × Nat):Prop where
 ins:∀ k∈r.1.ins,0≤k∧k<(m:Int)
 few:r.1.ins.length≤3
 op:Fits r.1.op
 num:Fits r.1.n
 how:Fits r.1.how
 note:r.1.note=⟨#[]⟩
 at_:r.2≤n
theorem d1a:∀(L:List (List Int)) (k:Nat) (s:List Int),∀ x∈a2w k L s,(k:Int)≤x∧x<(k+L.length:Nat)
 | [],k,s,x,hx=>by simp[a2w] at hx
 | y::L,k,s,x,hx=>by
  rw[a2w] at hx;have ih:=d1a L (k+1) s x;rw[List.length_cons]
  split at hx
  ·rcases List.mem_cons.1 hx with rfl|hx
   ·omega
   ·have:=ih hx;omega
  ·have:=ih hx;omega
theorem b3f (j:Nat)(h:0<L.length):0≤(a2w 0 L s).getD j 0∧(a2w 0 L s).getD j 0<(L.length:Int):=by
 rw[gD]
 cases e:(a2w 0 L s)[j]? with
 | none=>simp;omega
 | some x =>
  have:=d1a L 0 s x (mG e);simp only[Option.getD_some];omega
theorem a1z {x:Int}(h : -100≤x)(g:x≤100):Fits x:=⟨by omega,by omega⟩
theorem d1e {m:Nat}(h:xs.length=n)(ha:a≤n):b2e m n (kSrc xs a):=by
 have h1:=a1p 4 h ha;have h2:=a7b h h1;rw[kSrc]
 split
 ·exact⟨by simp[ndV],by simp[ndV],a1z (by simp[ndV]) (by simp[ndV]),a9v _ _,a1z (by simp[ndV]) (by simp[ndV]),rfl,b7x h h2.1⟩
 ·split
  ·exact⟨by simp[ndV],by simp[ndV],a1z (by simp[ndV]) (by simp[ndV]),a1z (by simp[ndV]) (by simp[ndV]),a1z (by simp[ndV]) (by simp[ndV]),rfl,a1p _ h h2.1⟩
  ·exact⟨by simp[ndV],by simp[ndV],a1z (by simp[ndV]) (by simp[ndV]),a1z (by simp[ndV]) (by simp[ndV]),a1z (by simp[ndV]) (by simp[ndV]),rfl,h2.1⟩
section
variable {xs : List Int} {b n m q : Nat}
theorem b0c {op:Int}{sh a:List Int}{k how:Int}{z:Nat}(hq:q<m)(h1 : -100≤op)(h2:op≤100)(h3:Fits k)(h4 : -100≤how)(h5:how≤100)(hz:z≤n):b2e m n (ndV op [(q:Int)] sh a k how,z) :=
 ⟨by intro k hk;simp[ndV] at hk;subst hk;omega,by simp[ndV],a1z h1 h2,h3,a1z h4 h5,rfl,hz⟩
theorem a7m:Fits 0:=⟨by omega,by omega⟩
theorem e1c (h:xs.length=n)(hb:b≤n)(hq:q<m):b2e m n (kOp0 xs b q):=by
 have h1:=a0q xs b 2;have h2:=a4b xs b (show(0:Int)<2 by omega);exact b0c hq (by omega) (by omega) a7m (by omega) (by omega) (a1p _ h hb)
theorem d1d (h:xs.length=n)(hb:b≤n)(hq:q<L.length):b2e L.length n (kOp1 xs b q s L):=by
 have h1:=a0q xs b 6;have h2:=a4b xs b (show(0:Int)<6 by omega);refine⟨?_,by simp[kOp1,ndV],a1z (by simp[kOp1,ndV];omega) (by simp[kOp1,ndV];omega),a7m,a7m,rfl,a1p _ h (a1p _ h hb)⟩;intro k hk;simp only[kOp1,ndV,List.mem_cons,List.not_mem_nil,or_false] at hk;rcases hk with rfl|rfl
 ·omega
 ·exact b3f _ (by omega)
theorem e1d (h:xs.length=n)(hb:b≤n)(hq:q<L.length):b2e L.length n (kOp3 xs b q s L):=by
 refine⟨?_,by simp[kOp3,ndV],a1z (by simp[kOp3,ndV]) (by simp[kOp3,ndV]),a7m,a7m,rfl,a1p _ h (a1p _ h hb)⟩;intro k hk;simp only[kOp3,ndV,List.mem_cons,List.not_mem_nil,or_false] at hk;rcases hk with rfl|rfl|rfl
 ·omega
 ·exact b3f _ (by omega)
 ·exact b3f _ (by omega)
theorem d0z (h:xs.length=n):∀(m j a:Nat) (p:List Int),a≤n→(b1q xs m j a p).2≤n
 | 0,_,_,_,ha=>ha
 | m+1,j,_,_,ha=>d0z h m (j+1) _ _ (a1p _ h ha)
theorem e1e (h:xs.length=n)(hb:b≤n)(hq:q<m):b2e m n (kOp4 xs b q s) :=
 b0c hq (by omega) (by omega) a7m (by omega) (by omega) (d0z h _ _ _ _ hb)
theorem e1f (h:xs.length=n)(hb:b≤n)(hq:q<m):b2e m n (kOp5 xs b q s):=by
 rw[kOp5]
 split
 ·exact b0c hq (by omega) (by omega) a7m (by omega) (by omega) hb
 ·exact b0c hq (by omega) (by omega) a7m (by omega) (by omega) (a1p _ h (a1p _ h hb))
theorem d0v (h:xs.length=n):∀(s:List Int) (a:Nat),a≤n→(a5m xs s a).2≤n
 | [],_,ha=>ha
 | _::s,_,ha=>d0v h s _ (a1p _ h (a1p _ h ha))
theorem e1g (h:xs.length=n)(hb:b≤n)(hq:q<m):b2e m n (kOp6 xs b q s) :=
 b0c hq (by omega) (by omega) a7m (by omega) (by omega) (d0v h _ _ hb)
theorem d0y (h:xs.length=n):∀(m a:Nat),a≤n→(a5r xs m a).2≤n
 | 0,_,ha=>ha
 | m+1,_,ha=>d0y h m _ (a1p _ h (a1p _ h ha))
theorem e1h (h:xs.length=n)(hb:b≤n)(hq:q<m):b2e m n (kOp7 xs b q s) :=
 b0c hq (by omega) (by omega) (a9v _ _) (by omega) (by omega) (b7x h (d0y h _ _ hb))
theorem e1i (h:xs.length=n)(hb:b≤n)(hq:q<L.length):b2e L.length n (kOp8 xs b q s L):=by
 rw[kOp8]
 split
 ·exact b0c hq (by omega) (by omega) a7m (by omega) (by omega) hb
 ·refine⟨?_,by simp[ndV];omega,a1z (by simp[ndV]) (by simp[ndV]),a7m,a7m,rfl,a1p _ h (a1p _ h (a1p _ h hb))⟩;intro k hk;have hk:=List.mem_of_mem_take hk;simp only[List.mem_cons,List.not_mem_nil,or_false] at hk;rcases hk with rfl|rfl|rfl
  ·omega
  ·exact b3f _ (by omega)
  ·omega
theorem b7v (h:xs.length=n):∀(m j a:Nat),a≤n→(a3a xs m j a).2≤n
 | 0,_,_,ha=>ha
 | m+1,j,a,ha=>by
  rw[a3a]
  split
  ·exact b7v h m _ _ (a1p _ h ha)
  ·exact b7v h m _ _ (a1p _ h ha)
theorem e1j (h:xs.length=n)(hb:b≤n)(hq:q<m):b2e m n (kOp9 xs b q s):=by
 have h1:=a0q xs (a3a xs s.length 0 b).2 4;have h2:=a4b xs (a3a xs s.length 0 b).2 (show(0:Int)<4 by omega);exact b0c hq (by omega) (by omega) a7m (by omega) (by omega) (a1p _ h (b7v h _ _ _ hb))
theorem d1c {L:List (List Int)}{s:List Int}(h:xs.length=n)(hq:q<L.length):∀(m k a:Nat),a≤n→b2e L.length n (kDot xs L s q m k a)
 | 0,k,a,ha=>b0c hq (by omega) (by omega) a7m (by omega) (by omega) ha
 | m+1,k,a,ha=>by
  have hin:∀ x∈[(q:Int),(((k+(tv xs a 3).toNat) % L.length:Nat):Int)],0≤x∧x<(L.length:Int):=by
   intro x hx;simp only[List.mem_cons,List.not_mem_nil,or_false] at hx;have:=Nat.mod_lt (k+(tv xs a 3).toNat) (show 0<L.length by omega);rcases hx with rfl|rfl <;> omega
  rw[kDot]
  split
  ·exact⟨hin,by simp[ndV],a1z (by simp[ndV]) (by simp[ndV]),a7m,a7m,rfl,a1p _ h ha⟩
  ·split
   ·exact⟨hin,by simp[ndV],a1z (by simp[ndV]) (by simp[ndV]),a7m,a7m,rfl,a1p _ h ha⟩
   ·exact d1c h hq m (k+1) _ (a1p _ h ha)
theorem d6w (h:xs.length=n)(hb:b≤n)(hq:q<m):b2e m n (c5n xs b q s):=by
 rw[c5n]
 split
 ·exact b0c hq (by omega) (by omega) a7m (by omega) (by omega) hb
 ·have h1:=a0q xs (ta xs (ta xs (ta xs b s.length) 3) 2) 4;have h2:=a4b xs (ta xs (ta xs (ta xs b s.length) 3) 2) (show(0:Int)<4 by omega);exact b0c hq (by omega) (by omega) a7m (by omega) (by omega) (a1p _ h (a1p _ h (a1p _ h (a1p _ h hb))))
theorem c5s (h:xs.length=n)(ha:a≤n):b2e L.length n (a7a xs a L):=by
 rw[a7a]
 split
 ·exact d1e h ha
 ·split
  ·exact d1e h (a1p _ h ha)
  ·have h0:0<L.length:=by omega
   have h1:=a0q xs (ta xs a 5) L.length;have h2:=a4b xs (ta xs a 5) (show(0:Int)<(L.length:Int) by omega);have hq:(tv xs (ta xs a 5) L.length).toNat<L.length:=by omega
   have hb:ta xs (ta xs (ta xs a 5) L.length) 12≤n:=a1p _ h (a1p _ h (a1p _ h ha));generalize (tv xs (ta xs a 5) L.length).toNat=q at *;generalize ta xs (ta xs (ta xs a 5) L.length) 12=b at *;generalize tv xs (ta xs (ta xs a 5) L.length) 12=K at *;generalize L.getD q []=s at *;unfold kOp;by_cases k0:K=0
   ·rw[iP k0];exact e1c h hb hq
   rw[iN k0];by_cases k1:K=1
   ·rw[iP k1];exact d1d h hb hq
   rw[iN k1];by_cases k2:K=2
   ·rw[iP k2];exact d1d h hb hq
   rw[iN k2];by_cases k3:K=3
   ·rw[iP k3];exact e1d h hb hq
   rw[iN k3];by_cases k4:K=4
   ·rw[iP k4];exact e1e h hb hq
   rw[iN k4];by_cases k5:K=5
   ·rw[iP k5];exact e1f h hb hq
   rw[iN k5];by_cases k6:K=6
   ·rw[iP k6];exact e1g h hb hq
   rw[iN k6];by_cases k7:K=7
   ·rw[iP k7];exact e1h h hb hq
   rw[iN k7];by_cases k8:K=8
   ·rw[iP k8];exact e1i h hb hq
   rw[iN k8];by_cases k9:K=9
   ·rw[iP k9];exact e1j h hb hq
   rw[iN k9];by_cases k10:K=10
   ·rw[iP k10];exact d1c h hq _ _ _ hb
   rw[iN k10];exact d6w h hb hq
end
def Fine (r:Int × List Int × List Int):Prop:=r.1=0→Sh.right r.2.1=true
theorem a1k {e:Int}(h:e≠0):Fine (refused e):=fun h'=>absurd h' h
theorem e0j (op:Int)(s d:List Int):Fine (oneR op s d):=by
 rw[oneR];split
 ·exact a1k (by decide)
 ·split
  ·rename_i h;exact fun _=>a3o h
  ·exact a1k (by decide)
theorem e0l (op:Int)(s d t k:List Int):Fine (twoR op s d t k):=by
 rw[twoR];split
 ·exact a1k (by decide)
 ·split
  ·rename_i h;rw[Bool.and_eq_true] at h;exact fun _=>a3o h.1
  ·exact a1k (by decide)
theorem d5s (cs cd s d t k:List Int):Fine (b4u cs cd s d t k):=by
 rw[b4u];split
 ·rename_i h;simp only[Bool.and_eq_true] at h;exact fun _=>a3o h.2.1.1
 ·exact a1k (by decide)
theorem d5t (s d a:List Int):Fine (b3y s d a):=by
 rw[b3y];split
 ·rename_i h;split
  ·rename_i g;exact fun _=>(d4m g (a3o h)).1
  ·exact a1k (by decide)
 ·exact a1k (by decide)
theorem e4t (s d o a:List Int):Fine (spR s d o a):=by
 rw[spR];split
 ·rename_i h;rw[Bool.and_eq_true] at h;split
  ·exact fun _=>h.2
  ·exact a1k (by decide)
 ·exact a1k (by decide)
theorem e0h (s d f z:List Int):Fine (cutR s d f z):=by
 rw[cutR];split
 ·rename_i h;split
  ·rename_i g;exact fun _=>(e0a (a3o h) g).1
  ·exact a1k (by decide)
 ·exact a1k (by decide)
theorem e0k (s d f z:List Int)(n:Int):Fine (padR s d f z n):=by
 rw[padR];split
 ·split
  ·split
   ·rename_i h;exact fun _=>h
   ·exact a1k (by decide)
  ·exact a1k (by decide)
 ·exact a1k (by decide)
theorem d5r (ax:Int)(l:TL):Fine (a9t ax l):=by
 rw[a9t];split
 ·split
  ·split
   ·rename_i h;exact fun _=>h.2
   ·exact a1k (by decide)
  ·exact a1k (by decide)
 ·exact a1k (by decide)
theorem d5q (how:Int)(s d a:List Int):Fine (a8w how s d a):=by
 rw[a8w];split
 ·split
  ·split
   ·split
    ·rename_i h;exact fun _=>h
    ·exact a1k (by decide)
   ·exact a1k (by decide)
  ·exact a1k (by decide)
 ·exact a1k (by decide)
theorem e0i (s d t k:List Int)(n:Int):Fine (dotR s d t k n):=by
 rw[dotR];split
 ·split
  ·rename_i h;obtain⟨m,rfl,hok,hds⟩:=c2s h;intro _
   show Sh.right (dsR s t m).2=true
   rw[hds];exact hok.rs
  ·rename_i h;exact a1k h
 ·exact a1k (by decide)
theorem e0m (how:Int)(s d:List Int)(ax wide apart:Int):Fine (winR how s d ax wide apart):=by
 rw[winR];split
 ·split
  ·rename_i h;split
   ·rename_i g;rw[b0u] at g;exact fun _=>c2h (a3o h) (by omega)
   ·exact a1k (by decide)
  ·exact a1k (by decide)
 ·exact a1k (by decide)
theorem d5u (nd:a0l)(L:TL):Fine (a0w nd L):=by
 unfold a0w;by_cases h:nd.op=2
 ·rw[iP h];by_cases g:Sh.right nd.shape=true
  ·rw[iP g];exact fun _=>g
  ·rw[iN g];exact a1k (by decide)
 rw[iN h];clear h;by_cases h:nd.op=3
 ·rw[iP h];by_cases g:Sh.right nd.shape=true
  ·rw[iP g];by_cases k:nd.a.length=1∧0≤nd.a.getD 0 0∧nd.a.getD 0 0<nd.shape.length
   ·rw[iP k];exact fun _=>g
   ·rw[iN k];exact a1k (by decide)
  ·rw[iN g];exact a1k (by decide)
 rw[iN h];clear h;by_cases h:nd.op=4∨nd.op=5
 ·rw[iP h];exact e0j _ _ _
 rw[iN h];clear h;by_cases h:nd.op=12
 ·rw[iP h];exact d5s _ _ _ _ _ _
 rw[iN h];clear h;by_cases h:nd.op=13
 ·rw[iP h];exact d5t _ _ _
 rw[iN h];clear h;by_cases h:nd.op=14
 ·rw[iP h];exact e4t _ _ _ _
 rw[iN h];clear h;by_cases h:nd.op=15
 ·rw[iP h];by_cases g:nd.a.length=2*(L.getD 0 ([],[])).1.length
  ·rw[iP g];exact e0h _ _ _ _
  ·rw[iN g];exact a1k (by decide)
 rw[iN h];clear h;by_cases h:nd.op=16
 ·rw[iP h];by_cases g:nd.a.length=2*(L.getD 0 ([],[])).1.length
  ·rw[iP g];exact e0k _ _ _ _ _
  ·rw[iN g];exact a1k (by decide)
 rw[iN h];clear h;by_cases h:nd.op=17
 ·rw[iP h];by_cases g:nd.a.length=1
  ·rw[iP g];exact d5r _ _
  ·rw[iN g];exact a1k (by decide)
 rw[iN h];clear h;by_cases h:nd.op=18
 ·rw[iP h];exact d5q _ _ _ _
 rw[iN h];clear h;by_cases h:nd.op=19
 ·rw[iP h];by_cases g:nd.a.length=1
  ·rw[iP g];exact e0i _ _ _ _ _
  ·rw[iN g];exact a1k (by decide)
 rw[iN h];clear h;by_cases h:nd.op=20
 ·rw[iP h];by_cases g:nd.a.length=3
  ·rw[iP g];exact e0m _ _ _ _ _ _
  ·rw[iN g];exact a1k (by decide)
 rw[iN h];clear h;exact e0l _ _ _ _ _
theorem b2s {nd:a0l}(h:(a1i nd L).1=0):Sh.right (a1i nd L).2=true:=by
 unfold a1i at h ⊢
 split
 ·rename_i h1;rw[iP h1] at h
  split
  ·rename_i h2;rw[iP h2] at h
   split
   ·rename_i h3;rw[iP h3] at h
    split
    ·rename_i h4;exact h4
    ·rename_i h4;rw[iN h4] at h;cases h
   ·rename_i h3;rw[iN h3] at h
    split
    ·rename_i h4;exact d5u _ _ h4
    ·rename_i h4;rw[iN h4] at h;exact absurd h h4
  ·rename_i h2;rw[iN h2] at h;cases h
 ·rename_i h1;rw[iN h1] at h;cases h
end Go.Proofs.YtdcmanhgekjhgaaGreatDoor
