import Derived.Test.YtjblengklgkgfaaGreatPbs
set_option maxRecDepth 100000
set_option maxHeartbeats 12800000
namespace Go.Proofs.YtjblengklgkgfaaGreat
open Go.RowKit Go.Proofs.Tryz
variable {A Al:Option Addr} {L:List (List Int)} {a c cl g i n nl:Nat} {l:List a0c} {s xs:List Int} {w w0:World}
theorem a7k.app {P l0:List a0c}(h:a7k w0 l i g A n c Al nl L)(hK:KT l i (TB g A n c a) l0):a7k w0 (P++l0) (P.length+i) g A n c Al nl L :=
 ⟨h.1,h.2.1,fun j x hx=>by
  obtain⟨la,B,m,cap,e,hc,hs⟩:=h.2.2 j x hx;refine⟨la,B,m,cap,e,hc,fun w a' l1 hk H=>?_⟩;obtain⟨l2,rfl,hk2⟩:=hK.app hk
  exact hs w a' l2 hk2 H.rest_⟩
theorem d3i (q b:Nat)(h5:¬ tv xs a 5=0)(hq:tv xs (ta xs a 5) nl=q)(hs:L[q]?=some s)(hb:ta xs (ta xs (ta xs a 5) nl) 12=b)(hk:tv xs (ta xs (ta xs a 5) nl) 12=10)(H:Sep w0 w l)(hi:l[i]?=some (TB g A n c a))(hI:Ints w0 A n xs)(ha:a≤n)(hL:a7k w0 l i g A n c Al nl L):
  Calls prog 22 #[.pointer (some ⟨g,0,none⟩),.slice Al nl cl] w (a3u w0 l i g A n c (kDot xs L s q nl 0 b)):=by
 obtain⟨KS,hKS⟩:∃ q0,kDot xs L s q nl 0 b=q0:=⟨_,rfl⟩;rw[hKS];have HKS:=Hd hKS;clear hKS;have HXL:=Hd hI.len;have HI:=Hd hI;have hnle:=hI.le;have hll:=hL.1;have hln:=hL.2.1;have HLL:=Hd hll;have HLK:=Hd hL;have HK:Hid (KT l i (TB g A n c a) l):=Hd ⟨hi,fun _=>rfl⟩;clear hll;have h1:=(((H.allocBox w.heap.size 38 zN rfl).addNil 3).addNil 3).addNil 3
 go_enter func22,ntmps22
 go_upto_region 1 with fail
 generalize w.alloc (.cells zA 38)=W at *;generalize w.heap.size=gr at *;clear H hi hI hL;have H:Hid (Sep w0 W ([oN,oN,oN,.box gr 38 zN]++l)):=Hd h1;clear h1;have hnl:0<nl:=by have h8:L.length=nl:=HLL.out;have:=(lL hs);omega
 have dn:((nl:Int)==0)=false:=by simp;omega
 have HQ0:=Hd hq;have HB0:=Hd hb;have HK0:=Hd hk;have HS0:=Hd hs;have h5n:=Hd h5;clear hq hb hk hs h5
 go_wp2_with fail
 refine(a1l (5) H HK HI ha (by omega) ⟨by omega,by omega⟩).mono ?_;clear H HK;rintro e1 w1 ⟨r1,a1,l1,rfl,HR1,br1,HA1,ba1,HK,H⟩;have d5:((r1:Int)==0)=false:=by have h8:=HR1.out;have h9:=h5n.out;rw[h8] at h9;simpa using h9
 go_wp2_with fail
 refine(a1l ((nl:Int)) H HK HI ba1 (by omega) ⟨by omega,by omega⟩).mono ?_;clear H HK;rintro e2 w2 ⟨r2,a2,l2,rfl,HR2,br2,HA2,ba2,HK,H⟩;obtain rfl:r2=q:=by have h8:=HR2.out;have h9:=HQ0.out;rw[HA1.out,h8] at h9;omega
 obtain⟨la,Bs,ms,cap,hAl,hmc,hst⟩:=HLK.out.2.2 r2 s HS0;subst hAl;have HST:=Hd hst;obtain⟨hlb,hcl,hIs⟩:=hst w2 a2 l2 HK H.rest_;have HSL:=Hd hIs.len;have hmsl:=hIs.le;have hr2:r2<nl:=by omega
 clear hst hIs hlb
 go_wp2_with fail
 clear hcl;refine(a1l (12) H HK HI ba2 (by omega) ⟨by omega,by omega⟩).mono ?_;clear H HK;rintro e3 w3 ⟨r3,a3,l3,rfl,HR3,br3,HA3,ba3,HK,H⟩;obtain rfl:r3=10:=by have h8:=HR3.out;have h9:=HK0.out;rw[HA1.out,HA2.out,h8] at h9;omega
 obtain rfl:a3=b:=by have h8:=HA3.out;have h9:=HB0.out;rw[HA1.out,HA2.out,h8] at h9;exact h9
 clear HR1 HR2 HR3 HQ0 HB0 HK0 h5n d5 dn
 go_wp2_with fail
 refine(e2s r2 HS0 H ((c8p i).trans HK.out.1) HI ba3 (HLK.app HK)).mono ?_;rintro e9 w9 ⟨vA,mA,vB,mB,vC,mC,rfl,l8,hK9,hS9⟩;obtain⟨l9,rfl,hK⟩:=HK.app hK9;obtain⟨⟨nd,ad⟩,hd⟩:∃ z,kDot xs L s r2 nl 0 a3=z:=⟨_,rfl⟩;rw[hd] at hK hS9 ⊢;have HX:=Hd (show KS=(nd,ad) by rw[←HKS.out,hd]);replace HK:=Hd hK;obtain⟨AA,cA,hv,_,_,_⟩:=(hS9.ownS 0 rfl).form;subst hv;obtain⟨AB,cB,hv,_,_,_⟩:=(hS9.ownS 1 rfl).form;subst hv;obtain⟨AC,cC,hv,_,_,_⟩:=(hS9.ownS 2 rfl).form;subst hv;replace H:Hid (Sep w0 w9 ([.own 3 (.slice AA mA cA) mA nd.ins,.own 3 (.slice AB mB cB) mB nd.shape,.own 3 (.slice AC mC cC) mC nd.a,oN,oN,oN,.box gr 38 zN]++l9)):=Hd hS9;clear hd hK hK9 hS9;obtain⟨rc0,rc1,rc2,rc3,rc4,rc5,rc6⟩:=H.cells7 6 rfl;obtain⟨fr0,fr1,fr2,fr3,fr4,fr5,fr6⟩:=H.f7 6 rfl;have HF:=Hd (H.set7 6 rfl (.int .i64 nd.op) (.slice AA mA cA) (.slice AB mB cB) (.slice AC mC cC) (.int .i64 nd.n) (.int .i64 nd.how) (.string nd.note));go_wp2;refine a1v HF 6 rfl results22 rfl rfl ?_;rw[HX.out];exact⟨_,_,_,_,_,_,rfl,_,HK,Sep.pick HF [0,1,2] rfl (by decide)⟩
theorem d9j (q b:Nat)(h5:¬ tv xs a 5=0)(hq:tv xs (ta xs a 5) nl=q)(hs:L[q]?=some s)(hb:ta xs (ta xs (ta xs a 5) nl) 12=b)(hk:tv xs (ta xs (ta xs a 5) nl) 12=6)(hs4:s.length≤4∧∀ x∈s,0≤x∧x≤32)(H:Sep w0 w l)(hi:l[i]?=some (TB g A n c a))(hI:Ints w0 A n xs)(ha:a≤n)(hL:a7k w0 l i g A n c Al nl L):
  Calls prog 22 #[.pointer (some ⟨g,0,none⟩),.slice Al nl cl] w (a3u w0 l i g A n c (kOp6 xs b q s)):=by
 obtain⟨KS,hKS⟩:∃ q0,kOp6 xs b q s=q0:=⟨_,rfl⟩;rw[hKS];have HKS:=Hd hKS;clear hKS;have HXL:=Hd hI.len;have HI:=Hd hI;have hnle:=hI.le;have hll:=hL.1;have hln:=hL.2.1;have HLL:=Hd hll;have HLK:=Hd hL;have HK:Hid (KT l i (TB g A n c a) l):=Hd ⟨hi,fun _=>rfl⟩;clear hll;have h1:=(((H.allocBox w.heap.size 38 zN rfl).addNil 3).addNil 3).addNil 3
 go_enter func22,ntmps22
 go_upto_region 1 with fail
 generalize w.alloc (.cells zA 38)=W at *;generalize w.heap.size=gr at *;clear H hi hI hL;have H:Hid (Sep w0 W ([oN,oN,oN,.box gr 38 zN]++l)):=Hd h1;clear h1;have hnl:0<nl:=by have h8:L.length=nl:=HLL.out;have:=(lL hs);omega
 have dn:((nl:Int)==0)=false:=by simp;omega
 have HQ0:=Hd hq;have HB0:=Hd hb;have HK0:=Hd hk;have HS0:=Hd hs;have h5n:=Hd h5;clear hq hb hk hs h5
 go_wp2_with fail
 refine(a1l (5) H HK HI ha (by omega) ⟨by omega,by omega⟩).mono ?_;clear H HK;rintro e1 w1 ⟨r1,a1,l1,rfl,HR1,br1,HA1,ba1,HK,H⟩;have d5:((r1:Int)==0)=false:=by have h8:=HR1.out;have h9:=h5n.out;rw[h8] at h9;simpa using h9
 go_wp2_with fail
 refine(a1l ((nl:Int)) H HK HI ba1 (by omega) ⟨by omega,by omega⟩).mono ?_;clear H HK;rintro e2 w2 ⟨r2,a2,l2,rfl,HR2,br2,HA2,ba2,HK,H⟩;obtain rfl:r2=q:=by have h8:=HR2.out;have h9:=HQ0.out;rw[HA1.out,h8] at h9;omega
 obtain⟨la,Bs,ms,cap,hAl,hmc,hst⟩:=HLK.out.2.2 r2 s HS0;subst hAl;have HST:=Hd hst;obtain⟨hlb,hcl,hIs⟩:=hst w2 a2 l2 HK H.rest_;have HSL:=Hd hIs.len;have hmsl:=hIs.le;have hr2:r2<nl:=by omega
 clear hst hIs hlb
 go_wp2_with fail
 clear hcl;refine(a1l (12) H HK HI ba2 (by omega) ⟨by omega,by omega⟩).mono ?_;clear H HK;rintro e3 w3 ⟨r3,a3,l3,rfl,HR3,br3,HA3,ba3,HK,H⟩;obtain rfl:r3=6:=by have h8:=HR3.out;have h9:=HK0.out;rw[HA1.out,HA2.out,h8] at h9;omega
 obtain rfl:a3=b:=by have h8:=HA3.out;have h9:=HB0.out;rw[HA1.out,HA2.out,h8] at h9;exact h9
 clear HR1 HR2 HR3 HQ0 HB0 HK0 h5n d5 dn
 go_wp2_with fail
 replace H:Hid (Sep w0 w3 ([oN,oN,oN,oN,.box gr 38 zN]++l3)):=Hd (H.addNil 3);replace H:Hid (Sep w0 w3 ([oN,oN,oN,oN,oN,.box gr 38 zN]++l3)):=Hd (H.addNil 3)
 go_loopw [201,18,19] (fun iv av bv wr=>∃(j:Nat) (vl vh:Value) (lo hi:List Int) (a9:Nat) (l9:List a0c),vl=av∧vh=bv∧iv=.int .i64 j∧j≤ms∧lo.length=j∧a9≤n∧((lo++(a5r xs (s.drop j) a9).1.1,hi++(a5r xs (s.drop j) a9).1.2),(a5r xs (s.drop j) a9).2)=a5r xs s a3∧KT l i (TB g A n c a9) l9∧Sep w0 wr ([.own 3 vl lo.length lo,.own 3 vh lo.length hi,oN,oN,oN,.box gr 38 zN]++l9)) (fun iv _ _ _=>ms-(intOf iv).toNat)
 case atStart=>exact⟨0,_,_,[],[],a3,_,rfl,rfl,rfl,by omega,rfl,ba3,rfl,HK,H⟩
 case round =>
  clear H HK;obtain⟨j,vl,vh,lo,hi,a9,l9,rfl,rfl,rfl,hj,hal,ba9,hq,hK,hS⟩:=hrel;have H:=Hd hS;have HK:=Hd hK;have HQ:=Hd hq;have HAL:=Hd hal;clear hS hK hq hal;by_cases hlt:j<ms
  ·obtain⟨sa,x,hsA,_,hx,hcx,_⟩:=((HST _ _ _ HK H.rest_).2.2).at_ (k:=j) hlt;subst hsA;obtain⟨hx0,hx32⟩:=hs4.2 x (mG hx);obtain⟨xn,rfl⟩:=eZ hx0;have hxn:xn≤32:=by omega
   have HQD:=Hd (show((lo++(a5r xs ((xn:Int)::s.drop (j+1)) a9).1.1,hi++(a5r xs ((xn:Int)::s.drop (j+1)) a9).1.2),(a5r xs ((xn:Int)::s.drop (j+1)) a9).2)=a5r xs s a3 by rw[←b2a hx];exact HQ);have HXN:=Hd hx;clear hx hx0 hx32
   go_wp2_with fail
   clear hcx;refine(a1l ((xn:Int)+1) H HK HI ba9 (by omega) ⟨by omega,by omega⟩).mono ?_;clear H HK;rintro e21 w21 ⟨r21,a21,l21,rfl,HR21,br21,HA21,ba21,HK,H⟩;have hcy:=((HST _ _ _ HK H.rest_).2.2).get HXN;have hlal:lo.length≤900:=by have h8:=HAL.out;have h9:=hs4.1;have h10:=HSL.out;omega
   have hrx:r21≤xn:=by omega
   have hw1:IntKind.i64.wrap ((xn:Int)-(r21:Int))=(xn:Int)-(r21:Int):=IntWalk.i64_in _ ⟨by omega,by omega⟩;have hw2:IntKind.i64.wrap ((xn:Int)-(r21:Int)+1)=(xn:Int)-(r21:Int)+1:=IntWalk.i64_in _ ⟨by omega,by omega⟩
   go_upto_region 52 with fail
   have H0:=Hd H.drew;refine wp_region_held_drew (S:=(fun w'=>w'.cell? (sa.add j)=some (.int .i64 (xn:Int)))) (by kernel_rfl) ?_ (fun hq_=>?_)
   ·exact hcy
   refine zV 0 hq_ ?_;refine zV 1 hq_ ?_;refine zV 4 hq_ ?_;refine zV 5 hq_ ?_;refine zV 6 hq_ ?_;refine zV 7 hq_ ?_;refine zV 8 hq_ ?_;refine zV 9 hq_ ?_;refine zV 10 hq_ ?_;refine zV 11 hq_ ?_;refine zV 12 hq_ ?_;refine e1 2 fun K hK=>?_;go_simp;(try go_wp2_with fail);refine zX hK (fun hq_=>?_) (a1n _ hcy);refine e1 3 fun K hK=>?_;(refine a0v rfl (.tmp 211) (.tmp 213) 22 3 rfl underlying22 Tryz.infoInt H0.out 0 rfl rfl (r21:Int) ⟨by omega,by omega⟩ _ rfl ?_ ?_;(focus omega);intro v3 w3 h3;have H3:Hid (Sep w0 w3 ([.own 3 v3 (lo.length+1) (lo++[(r21:Int)]),.own 3 vh lo.length hi,oN,oN,oN,.box gr 38 zN]++l21)):=Hd h3;have hcy3:=(HST.out _ _ _ HK.out H3.rest_).2.2.get HXN.out;clear h3);refine zX hK fun hq_=>?_;refine e1 13 fun K hK=>?_
   first|(refine effU ?_ ?_;(focus rfl))|(go_simp;(go_at_call 21;refine(b0l ((xn:Int)-(r21:Int)+1) H3 HK HI ba21 ⟨by omega,by omega⟩).mono ?_;rintro e30 w30 ⟨rfl,l30,hK30,hS30⟩;have b0:=a1a xs a21 ((xn:Int)-(r21:Int)+1);have b1:=a4l xs a21 (show(0:Int)<(xn:Int)-(r21:Int)+1 by omega);obtain⟨r30,hr30⟩:∃ z,tv xs a21 ((xn:Int)-(r21:Int)+1)=z:=⟨_,rfl⟩;rw[hr30] at b0 b1 ⊢;obtain⟨r30,rfl⟩:=eZ b0;have HR30:=Hd hr30;obtain⟨a30,ha30⟩:∃ z,ta xs a21 ((xn:Int)-(r21:Int)+1)=z:=⟨_,rfl⟩;have ba30:=a2e ((xn:Int)-(r21:Int)+1) HXL ba21;rw[ha30] at ba30 hK30;have HA30:=Hd ha30;have HK30:=Hd hK30;have H4:Hid (Sep w0 w30 ([.own 3 v3 (lo.length+1) (lo++[(r21:Int)]),.own 3 vh lo.length hi,oN,oN,oN,.box gr 38 zN]++l30)):=Hd hS30;have hcy4:=(HST _ _ _ HK30 H4.rest_).2.2.get HXN;clear hr30 ha30 hK30 hS30 b0);go_wp2_with fail)
   refine zX hK fun hq_=>?_;refine e1 14 fun K hK=>?_;go_simp;(try go_wp2_with fail);refine zX hK (fun hq_=>?_) (a1n _ hcy4);refine e1 15 fun K hK=>?_;(refine a0v rfl (.tmp 215) (.tmp 225) 22 3 rfl underlying22 Tryz.infoInt H4.out 1 rfl rfl (r30:Int) ⟨by omega,by omega⟩ _ rfl ?_ ?_;(focus omega);intro v5 w5 h5;have H5:Hid (Sep w0 w5 ([.own 3 v3 (lo.length+1) (lo++[(r21:Int)]),.own 3 v5 (lo.length+1) (hi++[(r30:Int)]),oN,oN,oN,.box gr 38 zN]++l30)):=Hd h5;have hcy5:=(HST.out _ _ _ HK30.out H5.rest_).2.2.get HXN.out;clear h5);refine zX hK fun hq_=>?_;refine zV 16 hq_ ?_;refine zV 17 hq_ ?_;refine dN ?_;have HQE:=Hd (d1p HQD.out HR21.out HA21.out HR30.out HA30.out);go_wp2;go_roundw
   case rel=>exact⟨j+1,_,_,lo++[(r21:Int)],hi++[(r30:Int)],a30,_,rfl,rfl,by go_num,by omega,by rw[List.length_append,List.length_singleton,HAL.out],ba30,HQE,HK30,by rw[List.length_append,List.length_singleton];exact H5⟩
   case measure=>simp[intOf];omega
  ·have hjm:j=ms:=by omega
   subst hjm;have HE:=Hd (show a5r xs s a3=((lo,hi),a9) by rw[←HQ.out,List.drop_eq_nil_of_le (by have h8:=HSL.out;omega),a5r,List.append_nil,List.append_nil]);obtain⟨A9,c9,hv,hmc9,_,_⟩:=(H.ownS 0 rfl).form;subst hv;obtain⟨A8,c8,hv,hmc8,_,_⟩:=(H.ownS 1 rfl).form;subst hv;replace H:=Hd (H.litP 3 #[.int .i64 ((r2:Int))] [((r2:Int))] 1 rfl (by first|(simp[a0y];done)|(simp[a0y];omega)))
   go_wp2_with (at_builtin;refine a0l rfl (.tmp 230) (.tmp 231) 22 3 rfl underlying22 Tryz.infoInt H.out 1 rfl rfl A8 lo.length c8 hi rfl ((H.out.ownInts 2 rfl).2.2) ?c1 ?_)
   case c1=>have h8:=HAL.out;have h9:=hs4.1;have h10:=HSL.out;omega
   intro vj wj h';replace H:Hid (Sep w0 wj ([.own 3 (.slice (some ⟨wr.heap.size,0,none⟩) 1 1) 1 [((r2:Int))],.own 3 vj (lo.length+lo.length) (lo++hi),.own 3 (.slice A8 lo.length c8) lo.length hi,oN,oN,oN,.box gr 38 zN]++l9)):=Hd h';clear h';obtain⟨A7,c7,hv,hmc7,_,_⟩:=(H.ownS 1 rfl).form;subst hv;have HX:=Hd (show KS=(ndV 15 [(r2:Int)] [] (lo++hi) 0 0,a9) by rw[←HKS.out,kOp6,HE.out]);obtain⟨rc0,rc1,rc2,rc3,rc4,rc5,rc6⟩:=H.cells7 6 rfl;obtain⟨fr0,fr1,fr2,fr3,fr4,fr5,fr6⟩:=H.f7 6 rfl;have HF:=Hd (H.set7 6 rfl (.int .i64 15) (.slice (some ⟨wr.heap.size,0,none⟩) 1 1) (.slice none 0 0) (.slice A7 (lo.length+lo.length) c7) (.int .i64 0) (.int .i64 0) (.string ⟨#[]⟩));go_wp2;refine a1v HF 6 rfl results22 rfl rfl ?_;rw[HX.out];exact⟨_,_,_,_,_,_,rfl,_,HK,Sep.pick HF [0,3,1] rfl (by decide)⟩
noncomputable def kOp (K:Int) (xs:List Int) (b q:Nat) (s:List Int) (L:List (List Int)):a0s × Nat :=
 if K=0 then kOp0 xs b q else if K=1 then kOp1 xs b q s L else if K=2 then kOp1 xs b q s L else if K=3 then kOp3 xs b q s L else if K=4 then kOp4 xs b q s else if K=5 then kOp5 xs b q s
 else if K=6 then kOp6 xs b q s else if K=7 then kOp7 xs b q s else if K=8 then kOp8 xs b q s L else if K=9 then kOp9 xs b q s else if K=10 then kDot xs L s q L.length 0 b else c6i xs b q s
noncomputable def a7m (xs:List Int) (a:Nat) (L:List (List Int)):a0s × Nat :=
 if L.length=0 then kSrc xs a else if tv xs a 5=0 then kSrc xs (ta xs a 5)
 else kOp (tv xs (ta xs (ta xs a 5) L.length) 12) xs (ta xs (ta xs (ta xs a 5) L.length) 12) (tv xs (ta xs a 5) L.length).toNat (L.getD (tv xs (ta xs a 5) L.length).toNat []) L
theorem e2f (hok:∀ s∈L,s.length≤4∧∀ x∈s,0≤x∧x≤32)(H:Sep w0 w l)(hi:l[i]?=some (TB g A n c a))(hI:Ints w0 A n xs)(ha:a≤n)(hL:a7k w0 l i g A n c Al nl L):
  Calls prog 22 #[.pointer (some ⟨g,0,none⟩),.slice Al nl cl] w (a3u w0 l i g A n c (a7m xs a L)):=by
 have hl:=hL.1;rcases Nat.eq_zero_or_pos nl with e|e
 ·rw[a7m,iP (by omega)];exact d4q e H hi hI ha hL
 ·rw[a7m,iN (by omega)];by_cases h5:tv xs a 5=0
  ·rw[iP h5];exact d6c e h5 H hi hI ha hL
  ·rw[iN h5,hl];obtain⟨q,hq⟩:=eZ (a1a xs (ta xs a 5) nl);have hqn:=a4l xs (ta xs a 5) (show(0:Int)<nl by omega);obtain⟨s,hs⟩:∃ s,L[q]?=some s:=gE (by omega);have hsk:=hok s (mG hs);have hgd:L.getD q []=s:=by rw[gD,hs];rfl
   rw[hq,Int.toNat_natCast,hgd];have k0:=a1a xs (ta xs (ta xs a 5) nl) 12;have k1:=a4l xs (ta xs (ta xs a 5) nl) (show(0:Int)<12 by omega);obtain⟨K,hK⟩:∃ K,tv xs (ta xs (ta xs a 5) nl) 12=K:=⟨_,rfl⟩;rw[hK] at k0 k1 ⊢;have hcase:K=0∨K=1∨K=2∨K=3∨K=4∨K=5∨K=6∨K=7∨K=8∨K=9∨K=10∨K=11:=by omega
   unfold kOp;rcases hcase with rfl|rfl|rfl|rfl|rfl|rfl|rfl|rfl|rfl|rfl|rfl|rfl
   ·rw[iP rfl];exact d8d q _ h5 hq hs rfl hK H hi hI ha hL
   ·rw[iN (by decide)];rw[iP rfl];exact d7h q _ h5 hq hs rfl hK H hi hI ha hL
   ·rw[iN (by decide)];rw[iN (by decide)];rw[iP rfl];exact d9d q _ h5 hq hs rfl hK H hi hI ha hL
   ·rw[iN (by decide)];rw[iN (by decide)];rw[iN (by decide)];rw[iP rfl];exact d9m q _ h5 hq hs rfl hK H hi hI ha hL
   ·rw[iN (by decide)];rw[iN (by decide)];rw[iN (by decide)];rw[iN (by decide)];rw[iP rfl];exact d9p q _ h5 hq hs rfl hK hsk.1 H hi hI ha hL
   ·rw[iN (by decide)];rw[iN (by decide)];rw[iN (by decide)];rw[iN (by decide)];rw[iN (by decide)];rw[iP rfl];exact d7y q _ h5 hq hs rfl hK H hi hI ha hL
   ·rw[iN (by decide)];rw[iN (by decide)];rw[iN (by decide)];rw[iN (by decide)];rw[iN (by decide)];rw[iN (by decide)];rw[iP rfl];exact d9j q _ h5 hq hs rfl hK hsk H hi hI ha hL
   ·rw[iN (by decide)];rw[iN (by decide)];rw[iN (by decide)];rw[iN (by decide)];rw[iN (by decide)];rw[iN (by decide)];rw[iN (by decide)];rw[iP rfl];exact d7t q _ h5 hq hs rfl hK hsk.1 H hi hI ha hL
   ·rw[iN (by decide)];rw[iN (by decide)];rw[iN (by decide)];rw[iN (by decide)];rw[iN (by decide)];rw[iN (by decide)];rw[iN (by decide)];rw[iN (by decide)];rw[iP rfl];exact d7s q _ h5 hq hs rfl hK H hi hI ha hL
   ·rw[iN (by decide)];rw[iN (by decide)];rw[iN (by decide)];rw[iN (by decide)];rw[iN (by decide)];rw[iN (by decide)];rw[iN (by decide)];rw[iN (by decide)];rw[iN (by decide)];rw[iP rfl];exact d6x q _ h5 hq hs rfl hK hsk.1 H hi hI ha hL
   ·rw[iN (by decide)];rw[iN (by decide)];rw[iN (by decide)];rw[iN (by decide)];rw[iN (by decide)];rw[iN (by decide)];rw[iN (by decide)];rw[iN (by decide)];rw[iN (by decide)];rw[iN (by decide)];rw[iP rfl];rw[hl];exact d3i q _ h5 hq hs rfl hK H hi hI ha hL
   ·rw[iN (by decide)];rw[iN (by decide)];rw[iN (by decide)];rw[iN (by decide)];rw[iN (by decide)];rw[iN (by decide)];rw[iN (by decide)];rw[iN (by decide)];rw[iN (by decide)];rw[iN (by decide)];rw[iN (by decide)];exact d5a q _ h5 hq hs rfl hK H hi hI ha hL
structure b3p (m n:Nat) (r:a0s × Nat):Prop where
 ins:∀ k∈r.1.ins,0≤k∧k<(m:Int)
 few:r.1.ins.length≤3
 op:Fits r.1.op
 num:Fits r.1.n
 how:Fits r.1.how
 note:r.1.note=⟨#[]⟩
 at_:r.2≤n
theorem d0f:∀(L:List (List Int)) (k:Nat) (s:List Int),∀ x∈a3l k L s,(k:Int)≤x∧x<(k+L.length:Nat)
 | [],k,s,x,hx=>by simp[a3l] at hx
 | y::L,k,s,x,hx=>by
  rw[a3l] at hx;have ih:=d0f L (k+1) s x;rw[List.length_cons]
  split at hx
  ·rcases List.mem_cons.1 hx with rfl|hx
   ·omega
   ·have:=ih hx;omega
  ·have:=ih hx;omega
theorem b4w (j:Nat)(h:0<L.length):0≤(a3l 0 L s).getD j 0∧(a3l 0 L s).getD j 0<(L.length:Int):=by
 rw[gD]
 cases e:(a3l 0 L s)[j]? with
 | none=>simp;omega
 | some x =>
  have:=d0f L 0 s x (mG e);simp only[Option.getD_some];omega
theorem a2r {x:Int}(h : -100≤x)(g:x≤100):Fits x:=⟨by omega,by omega⟩
theorem c8m {m:Nat}(h:xs.length=n)(ha:a≤n):b3p m n (kSrc xs a):=by
 have h1:=a2e 4 h ha;have h2:=a7h h h1;rw[kSrc]
 split
 ·exact⟨by simp[ndV],by simp[ndV],a2r (by simp[ndV]) (by simp[ndV]),b1h _ _,a2r (by simp[ndV]) (by simp[ndV]),rfl,b8x h h2.1⟩
 ·split
  ·exact⟨by simp[ndV],by simp[ndV],a2r (by simp[ndV]) (by simp[ndV]),a2r (by simp[ndV]) (by simp[ndV]),a2r (by simp[ndV]) (by simp[ndV]),rfl,a2e _ h h2.1⟩
  ·exact⟨by simp[ndV],by simp[ndV],a2r (by simp[ndV]) (by simp[ndV]),a2r (by simp[ndV]) (by simp[ndV]),a2r (by simp[ndV]) (by simp[ndV]),rfl,h2.1⟩
section
variable {xs : List Int} {b n m q : Nat}
theorem b1a {op:Int}{sh a:List Int}{k how:Int}{z:Nat}(hq:q<m)(h1 : -100≤op)(h2:op≤100)(h3:Fits k)(h4 : -100≤how)(h5:how≤100)(hz:z≤n):b3p m n (ndV op [(q:Int)] sh a k how,z) :=
 ⟨by intro k hk;simp[ndV] at hk;subst hk;omega,by simp[ndV],a2r h1 h2,h3,a2r h4 h5,rfl,hz⟩
theorem a4p:Fits 0:=⟨by omega,by omega⟩
theorem d8a (h:xs.length=n)(hb:b≤n)(hq:q<m):b3p m n (kOp0 xs b q):=by
 have h1:=a1a xs b 2;have h2:=a4l xs b (show(0:Int)<2 by omega);exact b1a hq (by omega) (by omega) a4p (by omega) (by omega) (a2e _ h hb)
theorem c9p (h:xs.length=n)(hb:b≤n)(hq:q<L.length):b3p L.length n (kOp1 xs b q s L):=by
 have h1:=a1a xs b 6;have h2:=a4l xs b (show(0:Int)<6 by omega);refine⟨?_,by simp[kOp1,ndV],a2r (by simp[kOp1,ndV];omega) (by simp[kOp1,ndV];omega),a4p,a4p,rfl,a2e _ h (a2e _ h hb)⟩;intro k hk;simp only[kOp1,ndV,List.mem_cons,List.not_mem_nil,or_false] at hk;rcases hk with rfl|rfl
 ·omega
 ·exact b4w _ (by omega)
theorem d6u (h:xs.length=n)(hb:b≤n)(hq:q<L.length):b3p L.length n (kOp3 xs b q s L):=by
 refine⟨?_,by simp[kOp3,ndV],a2r (by simp[kOp3,ndV]) (by simp[kOp3,ndV]),a4p,a4p,rfl,a2e _ h (a2e _ h hb)⟩;intro k hk;simp only[kOp3,ndV,List.mem_cons,List.not_mem_nil,or_false] at hk;rcases hk with rfl|rfl|rfl
 ·omega
 ·exact b4w _ (by omega)
 ·exact b4w _ (by omega)
theorem c8x (h:xs.length=n):∀(m j a:Nat) (p:List Int),a≤n→(b2g xs m j a p).2≤n
 | 0,_,_,_,ha=>ha
 | m+1,j,_,_,ha=>c8x h m (j+1) _ _ (a2e _ h ha)
theorem d6j (h:xs.length=n)(hb:b≤n)(hq:q<m):b3p m n (kOp4 xs b q s) :=
 b1a hq (by omega) (by omega) a4p (by omega) (by omega) (c8x h _ _ _ _ hb)
theorem d7g (h:xs.length=n)(hb:b≤n)(hq:q<m):b3p m n (kOp5 xs b q s):=by
 rw[kOp5]
 split
 ·exact b1a hq (by omega) (by omega) a4p (by omega) (by omega) hb
 ·exact b1a hq (by omega) (by omega) a4p (by omega) (by omega) (a2e _ h (a2e _ h hb))
theorem c9y (h:xs.length=n):∀(s:List Int) (a:Nat),a≤n→(a5r xs s a).2≤n
 | [],_,ha=>ha
 | _::s,_,ha=>c9y h s _ (a2e _ h (a2e _ h ha))
theorem d7k (h:xs.length=n)(hb:b≤n)(hq:q<m):b3p m n (kOp6 xs b q s) :=
 b1a hq (by omega) (by omega) a4p (by omega) (by omega) (c9y h _ _ hb)
theorem c9o (h:xs.length=n):∀(m a:Nat),a≤n→(a6c xs m a).2≤n
 | 0,_,ha=>ha
 | m+1,_,ha=>c9o h m _ (a2e _ h (a2e _ h ha))
theorem d8c (h:xs.length=n)(hb:b≤n)(hq:q<m):b3p m n (kOp7 xs b q s) :=
 b1a hq (by omega) (by omega) (b1h _ _) (by omega) (by omega) (b8x h (c9o h _ _ hb))
theorem d6y (h:xs.length=n)(hb:b≤n)(hq:q<L.length):b3p L.length n (kOp8 xs b q s L):=by
 rw[kOp8]
 split
 ·exact b1a hq (by omega) (by omega) a4p (by omega) (by omega) hb
 ·refine⟨?_,by simp[ndV];omega,a2r (by simp[ndV]) (by simp[ndV]),a4p,a4p,rfl,a2e _ h (a2e _ h (a2e _ h hb))⟩;intro k hk;have hk:=List.mem_of_mem_take hk;simp only[List.mem_cons,List.not_mem_nil,or_false] at hk;rcases hk with rfl|rfl|rfl
  ·omega
  ·exact b4w _ (by omega)
  ·omega
theorem b8h (h:xs.length=n):∀(m j a:Nat),a≤n→(a3o xs m j a).2≤n
 | 0,_,_,ha=>ha
 | m+1,j,a,ha=>by
  rw[a3o]
  split
  ·exact b8h h m _ _ (a2e _ h ha)
  ·exact b8h h m _ _ (a2e _ h ha)
theorem d6q (h:xs.length=n)(hb:b≤n)(hq:q<m):b3p m n (kOp9 xs b q s):=by
 have h1:=a1a xs (a3o xs s.length 0 b).2 4;have h2:=a4l xs (a3o xs s.length 0 b).2 (show(0:Int)<4 by omega);exact b1a hq (by omega) (by omega) a4p (by omega) (by omega) (a2e _ h (b8h h _ _ _ hb))
theorem c9x {L:List (List Int)}{s:List Int}(h:xs.length=n)(hq:q<L.length):∀(m k a:Nat),a≤n→b3p L.length n (kDot xs L s q m k a)
 | 0,k,a,ha=>b1a hq (by omega) (by omega) a4p (by omega) (by omega) ha
 | m+1,k,a,ha=>by
  have hin:∀ x∈[(q:Int),(((k+(tv xs a 3).toNat) % L.length:Nat):Int)],0≤x∧x<(L.length:Int):=by
   intro x hx;simp only[List.mem_cons,List.not_mem_nil,or_false] at hx;have:=Nat.mod_lt (k+(tv xs a 3).toNat) (show 0<L.length by omega);rcases hx with rfl|rfl <;> omega
  rw[kDot]
  split
  ·exact⟨hin,by simp[ndV],a2r (by simp[ndV]) (by simp[ndV]),a4p,a4p,rfl,a2e _ h ha⟩
  ·split
   ·exact⟨hin,by simp[ndV],a2r (by simp[ndV]) (by simp[ndV]),a4p,a4p,rfl,a2e _ h ha⟩
   ·exact c9x h hq m (k+1) _ (a2e _ h ha)
theorem d2r (h:xs.length=n)(hb:b≤n)(hq:q<m):b3p m n (c6i xs b q s):=by
 rw[c6i]
 split
 ·exact b1a hq (by omega) (by omega) a4p (by omega) (by omega) hb
 ·have h1:=a1a xs (ta xs (ta xs (ta xs b s.length) 3) 2) 4;have h2:=a4l xs (ta xs (ta xs (ta xs b s.length) 3) 2) (show(0:Int)<4 by omega);exact b1a hq (by omega) (by omega) a4p (by omega) (by omega) (a2e _ h (a2e _ h (a2e _ h (a2e _ h hb))))
theorem c5z (h:xs.length=n)(ha:a≤n):b3p L.length n (a7m xs a L):=by
 rw[a7m]
 split
 ·exact c8m h ha
 ·split
  ·exact c8m h (a2e _ h ha)
  ·have h0:0<L.length:=by omega
   have h1:=a1a xs (ta xs a 5) L.length;have h2:=a4l xs (ta xs a 5) (show(0:Int)<(L.length:Int) by omega);have hq:(tv xs (ta xs a 5) L.length).toNat<L.length:=by omega
   have hb:ta xs (ta xs (ta xs a 5) L.length) 12≤n:=a2e _ h (a2e _ h (a2e _ h ha));generalize (tv xs (ta xs a 5) L.length).toNat=q at *;generalize ta xs (ta xs (ta xs a 5) L.length) 12=b at *;generalize tv xs (ta xs (ta xs a 5) L.length) 12=K at *;generalize L.getD q []=s at *;unfold kOp;by_cases k0:K=0
   ·rw[iP k0];exact d8a h hb hq
   rw[iN k0];by_cases k1:K=1
   ·rw[iP k1];exact c9p h hb hq
   rw[iN k1];by_cases k2:K=2
   ·rw[iP k2];exact c9p h hb hq
   rw[iN k2];by_cases k3:K=3
   ·rw[iP k3];exact d6u h hb hq
   rw[iN k3];by_cases k4:K=4
   ·rw[iP k4];exact d6j h hb hq
   rw[iN k4];by_cases k5:K=5
   ·rw[iP k5];exact d7g h hb hq
   rw[iN k5];by_cases k6:K=6
   ·rw[iP k6];exact d7k h hb hq
   rw[iN k6];by_cases k7:K=7
   ·rw[iP k7];exact d8c h hb hq
   rw[iN k7];by_cases k8:K=8
   ·rw[iP k8];exact d6y h hb hq
   rw[iN k8];by_cases k9:K=9
   ·rw[iP k9];exact d6q h hb hq
   rw[iN k9];by_cases k10:K=10
   ·rw[iP k10];exact c9x h hq _ _ _ hb
   rw[iN k10];exact d2r h hb hq
end
end Go.Proofs.YtjblengklgkgfaaGreat
