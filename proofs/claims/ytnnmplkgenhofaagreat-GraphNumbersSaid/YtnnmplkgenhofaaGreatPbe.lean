import Derived.Test.YtnnmplkgenhofaaGreatPak
import Derived.Test.YtnnmplkgenhofaaGreatPar
import Derived.Test.YtnnmplkgenhofaaGreatPbd
set_option maxRecDepth 100000
set_option maxHeartbeats 12800000
namespace Go.Proofs.YtnnmplkgenhofaaGreat
open Go.RowKit
theorem node_op6 {w0 w:World} {l:List Chunk} {i g:Nat} {A:Option Addr} {n c a:Nat} {xs:List Int} {Al:Option Addr} {nl cl:Nat} {L:List (List Int)} (q b:Nat) {s:List Int} (h5:¬ tv xs a 5=0) (hq:tv xs (ta xs a 5) nl=q) (hs:L[q]? = some s) (hb:ta xs (ta xs (ta xs a 5) nl) 12=b) (hk:tv xs (ta xs (ta xs a 5) nl) 12=6) (hs4:s.length≤4∧∀ x∈s,0≤x∧x≤32) (H:Sep w0 w l) (hi:l[i]? = some (TB g A n c a)) (hI:Ints w0 A n xs) (ha:a≤n) (hL:LilsK w0 l i g A n c Al nl L) :
  Calls Tryz.prog 12 #[.pointer (some ⟨g,0,none⟩),.slice Al nl cl] w (NodePost w0 l i g A n c (kOp6 xs b q s)):=by
 obtain⟨KS,hKS⟩:∃ q0,kOp6 xs b q s=q0:=⟨_,rfl⟩;rw[hKS];have HKS:=Hd hKS;clear hKS;have HXL:=Hd hI.len;have HI:=Hd hI;have hnle:=hI.le;have hll:=hL.1;have hln:=hL.2.1;have HLL:=Hd hll;have HLK:=Hd hL;have HK:Hid (KT l i (TB g A n c a) l):=Hd ⟨hi,fun _=>rfl⟩;clear hll;have h1:=(((H.allocBox w.heap.size 34 [.int .i64 0,.slice none 0 0,.slice none 0 0,.slice none 0 0,.int .i64 0,.int .i64 0,.string ⟨#[]⟩] rfl).addNil 3).addNil 3).addNil 3
 go_enter Tryz.func12,Tryz.ntmps12
 go_upto_region 1 with fail
 generalize w.alloc (.cells #[.int .i64 0,.slice none 0 0,.slice none 0 0,.slice none 0 0,.int .i64 0,.int .i64 0,.string ⟨#[]⟩] 34)=W at *;generalize w.heap.size=gr at *;clear H hi hI hL;have H:Hid (Sep w0 W ([oN,oN,oN,.box gr 34 [.int .i64 0,.slice none 0 0,.slice none 0 0,.slice none 0 0,.int .i64 0,.int .i64 0,.string ⟨#[]⟩]]++l)):=Hd h1;clear h1;have hnl:0<nl:=by have h8:L.length=nl:=HLL.out;have:=(List.getElem?_eq_some_iff.1 hs).1;omega
 have dn:((nl:Int)==0)=false:=by simp;omega
 have HQ0:=Hd hq;have HB0:=Hd hb;have HK0:=Hd hk;have HS0:=Hd hs;have h5n:=Hd h5;clear hq hb hk hs h5
 go_wp2_with fail
 refine(next_s (5) H.out HK.out HI.out ha ⟨by omega,by omega⟩).mono ?_;rintro e1 w1 ⟨rfl,l1,hK,hS⟩;have b0:=tv_nonneg xs a (5);have b1:=tv_lt xs a (show(0:Int)<5 by omega);obtain⟨r1,hr⟩:∃ q,tv xs a (5)=q:=⟨_,rfl⟩;rw[hr] at b0 b1 ⊢;obtain⟨r1,rfl⟩:=Int.eq_ofNat_of_zero_le b0;have HR1:=Hd hr;have br1:(r1:Int)<5:=b1;clear b1;obtain⟨a1,ha1⟩:∃ q,ta xs a (5)=q:=⟨_,rfl⟩;have ba1:=ta_le (5) HXL.out ha;rw[ha1] at ba1 hK;have HA1:=Hd ha1;replace HK:=Hd hK;replace H:Hid (Sep w0 w1 ([oN,oN,oN,.box gr 34 [.int .i64 0,.slice none 0 0,.slice none 0 0,.slice none 0 0,.int .i64 0,.int .i64 0,.string ⟨#[]⟩]]++l1)):=Hd hS;clear hr ha1 hK hS b0;have d5:((r1:Int)==0)=false:=by have h8:=HR1.out;have h9:=h5n.out;rw[h8] at h9;simpa using h9
 go_wp2_with fail
 refine(next_s ((nl:Int)) H.out HK.out HI.out ba1 ⟨by omega,by omega⟩).mono ?_;rintro e2 w2 ⟨rfl,l2,hK,hS⟩;have b0:=tv_nonneg xs a1 ((nl:Int));have b1:=tv_lt xs a1 (show(0:Int)<(nl:Int) by omega);obtain⟨r2,hr⟩:∃ q,tv xs a1 ((nl:Int))=q:=⟨_,rfl⟩;rw[hr] at b0 b1 ⊢;obtain⟨r2,rfl⟩:=Int.eq_ofNat_of_zero_le b0;have HR2:=Hd hr;have br2:(r2:Int)<(nl:Int):=b1;clear b1;obtain⟨a2,ha2⟩:∃ q,ta xs a1 ((nl:Int))=q:=⟨_,rfl⟩;have ba2:=ta_le ((nl:Int)) HXL.out ba1;rw[ha2] at ba2 hK;have HA2:=Hd ha2;replace HK:=Hd hK;replace H:Hid (Sep w0 w2 ([oN,oN,oN,.box gr 34 [.int .i64 0,.slice none 0 0,.slice none 0 0,.slice none 0 0,.int .i64 0,.int .i64 0,.string ⟨#[]⟩]]++l2)):=Hd hS;clear hr ha2 hK hS b0;obtain rfl:r2=q:=by have h8:=HR2.out;have h9:=HQ0.out;rw[HA1.out,h8] at h9;omega
 obtain⟨la,Bs,ms,cap,hAl,hmc,hst⟩:=HLK.out.2.2 r2 s HS0.out;subst hAl;have HST:=Hd hst;obtain⟨hlb,hcl,hIs⟩:=hst w2 a2 l2 HK.out H.out.rest_;have HSL:=Hd hIs.len;have hmsl:=hIs.le;have hr2:r2<nl:=by omega
 clear hst hIs hlb
 go_wp2_with fail
 clear hcl;refine(next_s (12) H.out HK.out HI.out ba2 ⟨by omega,by omega⟩).mono ?_;rintro e3 w3 ⟨rfl,l3,hK,hS⟩;have b0:=tv_nonneg xs a2 (12);have b1:=tv_lt xs a2 (show(0:Int)<12 by omega);obtain⟨r3,hr⟩:∃ q,tv xs a2 (12)=q:=⟨_,rfl⟩;rw[hr] at b0 b1 ⊢;obtain⟨r3,rfl⟩:=Int.eq_ofNat_of_zero_le b0;have HR3:=Hd hr;have br3:(r3:Int)<12:=b1;clear b1;obtain⟨a3,ha3⟩:∃ q,ta xs a2 (12)=q:=⟨_,rfl⟩;have ba3:=ta_le (12) HXL.out ba2;rw[ha3] at ba3 hK;have HA3:=Hd ha3;replace HK:=Hd hK;replace H:Hid (Sep w0 w3 ([oN,oN,oN,.box gr 34 [.int .i64 0,.slice none 0 0,.slice none 0 0,.slice none 0 0,.int .i64 0,.int .i64 0,.string ⟨#[]⟩]]++l3)):=Hd hS;clear hr ha3 hK hS b0;obtain rfl:r3=6:=by have h8:=HR3.out;have h9:=HK0.out;rw[HA1.out,HA2.out,h8] at h9;omega
 obtain rfl:a3=b:=by have h8:=HA3.out;have h9:=HB0.out;rw[HA1.out,HA2.out,h8] at h9;exact h9
 clear HR1 HR2 HR3 HQ0 HB0 HK0 h5n d5 dn
 go_wp2_with fail
 replace H:Hid (Sep w0 w3 ([oN,oN,oN,oN,.box gr 34 [.int .i64 0,.slice none 0 0,.slice none 0 0,.slice none 0 0,.int .i64 0,.int .i64 0,.string ⟨#[]⟩]]++l3)):=Hd (H.out.addNil 3);replace H:Hid (Sep w0 w3 ([oN,oN,oN,oN,oN,.box gr 34 [.int .i64 0,.slice none 0 0,.slice none 0 0,.slice none 0 0,.int .i64 0,.int .i64 0,.string ⟨#[]⟩]]++l3)):=Hd (H.out.addNil 3)
 go_loopw [201,18,19] (fun iv av bv wr=>∃(j:Nat) (vl vh:Value) (lo hi:List Int) (a9:Nat) (l9:List Chunk),vl=av∧vh=bv∧iv=.int .i64 j∧j≤ms∧lo.length=j∧a9≤n∧((lo++(kCuts xs (s.drop j) a9).1.1,hi++(kCuts xs (s.drop j) a9).1.2),(kCuts xs (s.drop j) a9).2)=kCuts xs s a3∧KT l i (TB g A n c a9) l9∧Sep w0 wr ([.own 3 vl lo.length lo,.own 3 vh lo.length hi,oN,oN,oN,.box gr 34 [.int .i64 0,.slice none 0 0,.slice none 0 0,.slice none 0 0,.int .i64 0,.int .i64 0,.string ⟨#[]⟩]]++l9)) (fun iv _ _ _=>ms-(intOf iv).toNat)
 case atStart=>exact⟨0,_,_,[],[],a3,_,rfl,rfl,rfl,by omega,rfl,ba3,rfl,HK.out,H.out⟩
 case round =>
  clear H HK;obtain⟨j,vl,vh,lo,hi,a9,l9,rfl,rfl,rfl,hj,hal,ba9,hq,hK,hS⟩:=hrel;have H:=Hd hS;have HK:=Hd hK;have HQ:=Hd hq;have HAL:=Hd hal;clear hS hK hq hal;by_cases hlt:j<ms
  ·obtain⟨sa,x,hsA,_,hx,hcx,_⟩:=((HST.out _ _ _ HK.out H.out.rest_).2.2).at_ (k:=j) hlt;subst hsA;obtain⟨hx0,hx32⟩:=hs4.2 x (List.mem_of_getElem? hx);obtain⟨xn,rfl⟩:=Int.eq_ofNat_of_zero_le hx0;have hxn:xn≤32:=by omega
   have HQD:=Hd (show((lo++(kCuts xs ((xn:Int)::s.drop (j+1)) a9).1.1,hi++(kCuts xs ((xn:Int)::s.drop (j+1)) a9).1.2),(kCuts xs ((xn:Int)::s.drop (j+1)) a9).2)=kCuts xs s a3 by rw[← drop_at9 hx];exact HQ.out);have HXN:=Hd hx;clear hx hx0 hx32
   go_wp2_with fail
   clear hcx;refine(next_s ((xn:Int)+1) H.out HK.out HI.out ba9 ⟨by omega,by omega⟩).mono ?_;rintro e21 w21 ⟨rfl,l21,hK,hS⟩;have b0:=tv_nonneg xs a9 ((xn:Int)+1);have b1:=tv_lt xs a9 (show(0:Int)<(xn:Int)+1 by omega);obtain⟨r21,hr⟩:∃ q,tv xs a9 ((xn:Int)+1)=q:=⟨_,rfl⟩;rw[hr] at b0 b1 ⊢;obtain⟨r21,rfl⟩:=Int.eq_ofNat_of_zero_le b0;have HR21:=Hd hr;have br21:(r21:Int)<(xn:Int)+1:=b1;clear b1;obtain⟨a21,ha21⟩:∃ q,ta xs a9 ((xn:Int)+1)=q:=⟨_,rfl⟩;have ba21:=ta_le ((xn:Int)+1) HXL.out ba9;rw[ha21] at ba21 hK;have HA21:=Hd ha21;replace HK:=Hd hK;replace H:Hid (Sep w0 w21 ([.own 3 vl lo.length lo,.own 3 vh lo.length hi,oN,oN,oN,.box gr 34 [.int .i64 0,.slice none 0 0,.slice none 0 0,.slice none 0 0,.int .i64 0,.int .i64 0,.string ⟨#[]⟩]]++l21)):=Hd hS;clear hr ha21 hK hS b0;have hcy:=((HST.out _ _ _ HK.out H.out.rest_).2.2).get HXN.out;have hlal:lo.length≤900:=by have h8:=HAL.out;have h9:=hs4.1;have h10:=HSL.out;omega
   have hrx:r21≤xn:=by omega
   have hw1:IntKind.i64.wrap ((xn:Int)-(r21:Int))=(xn:Int)-(r21:Int):=IntWalk.i64_in _ ⟨by omega,by omega⟩;have hw2:IntKind.i64.wrap ((xn:Int)-(r21:Int)+1)=(xn:Int)-(r21:Int)+1:=IntWalk.i64_in _ ⟨by omega,by omega⟩
   go_upto_region 52 with fail
   have H0:=Hd H.out.drew;refine wp_region_held_drew (S:=(fun w' => w'.cell? (sa.add j)=some (.int .i64 (xn:Int)))) (by kernel_rfl) ?_ (fun hq_=>?_)
   ·exact hcy
   refine zW 0 hq_ ?_
   try simp only[pA]
   refine zW 1 hq_ ?_
   try simp only[pA]
   refine zW 4 hq_ ?_
   try simp only[pA]
   refine zW 5 hq_ ?_
   try simp only[pA]
   refine zW 6 hq_ ?_
   try simp only[pA]
   refine zW 7 hq_ ?_
   try simp only[pA]
   refine zW 8 hq_ ?_
   try simp only[pA]
   refine zW 9 hq_ ?_
   try simp only[pA]
   refine zW 10 hq_ ?_
   try simp only[pA]
   refine zW 11 hq_ ?_
   try simp only[pA]
   refine zW 12 hq_ ?_
   try simp only[pA]
   refine e1 2 fun K hK=>?_
   go_simp
   try go_wp2_with fail
   refine zK hK ?_ (alloc_keep _ hcy);clear hK K hq_;intro hq_
   try simp only[pA]
   refine e1 3 fun K hK=>?_
   (refine step_append_sep rfl (.tmp 211) (.tmp 213) 22 3 rfl Tryz.underlying22 Tryz.infoInt H0.out 0 rfl rfl (r21:Int) ⟨by omega,by omega⟩ _ rfl ?_ ?_;(focus omega);intro v3 w3 h3;have H3:Hid (Sep w0 w3 ([.own 3 v3 (lo.length+1) (lo++[(r21:Int)]),.own 3 vh lo.length hi,oN,oN,oN,.box gr 34 [.int .i64 0,.slice none 0 0,.slice none 0 0,.slice none 0 0,.int .i64 0,.int .i64 0,.string ⟨#[]⟩]]++l21)):=Hd h3;have hcy3:=(HST.out _ _ _ HK.out H3.out.rest_).2.2.get HXN.out;clear h3)
   refine zK hK ?_;clear hK K hq_;intro hq_
   try simp only[pA]
   refine e1 13 fun K hK=>?_
   first|(refine effU ?_ ?_;(focus rfl))|(go_simp;(go_at_call 11;refine(next_s ((xn:Int)-(r21:Int)+1) H3.out HK.out HI.out ba21 ⟨by omega,by omega⟩).mono ?_;rintro e30 w30 ⟨rfl,l30,hK30,hS30⟩;have b0:=tv_nonneg xs a21 ((xn:Int)-(r21:Int)+1);have b1:=tv_lt xs a21 (show(0:Int)<(xn:Int)-(r21:Int)+1 by omega);obtain⟨r30,hr30⟩:∃ z,tv xs a21 ((xn:Int)-(r21:Int)+1)=z:=⟨_,rfl⟩;rw[hr30] at b0 b1 ⊢;obtain⟨r30,rfl⟩:=Int.eq_ofNat_of_zero_le b0;have HR30:=Hd hr30;obtain⟨a30,ha30⟩:∃ z,ta xs a21 ((xn:Int)-(r21:Int)+1)=z:=⟨_,rfl⟩;have ba30:=ta_le ((xn:Int)-(r21:Int)+1) HXL.out ba21;rw[ha30] at ba30 hK30;have HA30:=Hd ha30;have HK30:=Hd hK30;have H4:Hid (Sep w0 w30 ([.own 3 v3 (lo.length+1) (lo++[(r21:Int)]),.own 3 vh lo.length hi,oN,oN,oN,.box gr 34 [.int .i64 0,.slice none 0 0,.slice none 0 0,.slice none 0 0,.int .i64 0,.int .i64 0,.string ⟨#[]⟩]]++l30)):=Hd hS30;have hcy4:=(HST.out _ _ _ HK30.out H4.out.rest_).2.2.get HXN.out;clear hr30 ha30 hK30 hS30 b0);go_wp2_with fail)
   refine zK hK ?_;clear hK K hq_;intro hq_
   try simp only[pA]
   refine e1 14 fun K hK=>?_
   go_simp
   try go_wp2_with fail
   refine zK hK ?_ (alloc_keep _ hcy4);clear hK K hq_;intro hq_
   try simp only[pA]
   refine e1 15 fun K hK=>?_
   (refine step_append_sep rfl (.tmp 215) (.tmp 225) 22 3 rfl Tryz.underlying22 Tryz.infoInt H4.out 1 rfl rfl (r30:Int) ⟨by omega,by omega⟩ _ rfl ?_ ?_;(focus omega);intro v5 w5 h5;have H5:Hid (Sep w0 w5 ([.own 3 v3 (lo.length+1) (lo++[(r21:Int)]),.own 3 v5 (lo.length+1) (hi++[(r30:Int)]),oN,oN,oN,.box gr 34 [.int .i64 0,.slice none 0 0,.slice none 0 0,.slice none 0 0,.int .i64 0,.int .i64 0,.string ⟨#[]⟩]]++l30)):=Hd h5;have hcy5:=(HST.out _ _ _ HK30.out H5.out.rest_).2.2.get HXN.out;clear h5)
   refine zK hK ?_;clear hK K hq_;intro hq_
   try simp only[pA]
   refine zW 16 hq_ ?_
   try simp only[pA]
   refine zW 17 hq_ ?_
   try simp only[pA]
   refine wpAnyH_done (by kernel_rfl) ?_ _;have HQE:=Hd (kCuts_step HQD.out HR21.out HA21.out HR30.out HA30.out);go_wp2;go_roundw
   case rel=>exact⟨j+1,_,_,lo++[(r21:Int)],hi++[(r30:Int)],a30,_,rfl,rfl,by go_num,by omega,by rw[List.length_append,List.length_singleton,HAL.out],ba30,HQE.out,HK30.out,by rw[List.length_append,List.length_singleton];exact H5.out⟩
   case measure=>simp[intOf];omega
  ·have hjm:j=ms:=by omega
   subst hjm;have HE:=Hd (show kCuts xs s a3=((lo,hi),a9) by rw[← HQ.out,List.drop_eq_nil_of_le (by have h8:=HSL.out;omega),kCuts,List.append_nil,List.append_nil]);obtain⟨A9,c9,hv,hmc9,_,_⟩:=(H.out.ownS 0 rfl).form;subst hv;obtain⟨A8,c8,hv,hmc8,_,_⟩:=(H.out.ownS 1 rfl).form;subst hv;replace H:Hid (Sep w0 (wr.alloc (.cells #[.int .i64 ((r2:Int))] 3)) ([.own 3 (.slice (some ⟨wr.heap.size,0,none⟩) 1 1) 1 [((r2:Int))],.own 3 (.slice A9 lo.length c9) lo.length lo,.own 3 (.slice A8 lo.length c8) lo.length hi,oN,oN,oN,.box gr 34 [.int .i64 0,.slice none 0 0,.slice none 0 0,.slice none 0 0,.int .i64 0,.int .i64 0,.string ⟨#[]⟩]]++l9)):=Hd (H.out.lit 3 #[.int .i64 ((r2:Int))] [((r2:Int))] 1 _ rfl rfl (by first|(simp[litOk];done)|(simp[litOk];omega)))
   go_wp2_with (at_builtin;refine wpList_appends_sep rfl (.tmp 230) (.tmp 231) 22 3 rfl Tryz.underlying22 Tryz.infoInt H.out 1 rfl rfl A8 lo.length c8 hi rfl ((H.out.ownInts 2 rfl).2.2) ?c1 ?_)
   case c1=>have h8:=HAL.out;have h9:=hs4.1;have h10:=HSL.out;omega
   intro vj wj h';replace H:Hid (Sep w0 wj ([.own 3 (.slice (some ⟨wr.heap.size,0,none⟩) 1 1) 1 [((r2:Int))],.own 3 vj (lo.length+lo.length) (lo++hi),.own 3 (.slice A8 lo.length c8) lo.length hi,oN,oN,oN,.box gr 34 [.int .i64 0,.slice none 0 0,.slice none 0 0,.slice none 0 0,.int .i64 0,.int .i64 0,.string ⟨#[]⟩]]++l9)):=Hd h';clear h';obtain⟨A7,c7,hv,hmc7,_,_⟩:=(H.out.ownS 1 rfl).form;subst hv;have HX:=Hd (show KS=(ndV 15 [(r2:Int)] [] (lo++hi) 0 0,a9) by rw[← HKS.out,kOp6,HE.out]);obtain⟨rc0,rc1,rc2,rc3,rc4,rc5,rc6⟩:=H.out.cells7 6 rfl;obtain ⟨fr0,fr1,fr2,fr3,fr4,fr5,fr6⟩:=H.out.f7 6 rfl;have HF:=Hd (((((((H.out.setBox 6 0 (.int .i64 15) rfl).setBox 6 1 (.slice (some ⟨wr.heap.size,0,none⟩) 1 1) rfl).setBox 6 2 (.slice none 0 0) rfl).setBox 6 3 (.slice A7 (lo.length+lo.length) c7) rfl).setBox 6 4 (.int .i64 0) rfl).setBox 6 5 (.int .i64 0) rfl).setBox 6 6 (.string ⟨#[]⟩) rfl);go_wp2;refine ret_node (v0:=.int .i64 15) (v1:=.slice (some ⟨wr.heap.size,0,none⟩) 1 1) (v2:=.slice none 0 0) (v3:=.slice A7 (lo.length+lo.length) c7) (v4:=.int .i64 0) (v5:=.int .i64 0) (v6:=.string ⟨#[]⟩) HF.out 6 rfl Tryz.results12 rfl rfl ?_;rw[HX.out];exact⟨_,_,_,_,_,_,rfl,_,HK.out,Sep.pick (P:=[.own 3 (.slice (some ⟨wr.heap.size,0,none⟩) 1 1) 1 [((r2:Int))],.own 3 (.slice A7 (lo.length+lo.length) c7) (lo.length+lo.length) (lo++hi),.own 3 (.slice A8 lo.length c8) lo.length hi,oN,oN,oN,.box gr 34 [.int .i64 15,.slice (some ⟨wr.heap.size,0,none⟩) 1 1,.slice none 0 0,.slice A7 (lo.length+lo.length) c7,.int .i64 0,.int .i64 0,.string ⟨#[]⟩]]) HF.out [0,3,1] rfl (by decide)⟩
noncomputable def kOp (K:Int) (xs:List Int) (b q:Nat) (s:List Int) (L:List (List Int)):NodeV × Nat :=
 if K=0 then kOp0 xs b q else if K=1 then kOp1 xs b q s L else if K=2 then kOp1 xs b q s L else if K=3 then kOp3 xs b q s L else if K=4 then kOp4 xs b q s else if K=5 then kOp5 xs b q s
 else if K=6 then kOp6 xs b q s else if K=7 then kOp7 xs b q s else if K=8 then kOp8 xs b q s L else if K=9 then kOp9 xs b q s else if K=10 then kDot xs L s q L.length 0 b else kOp11 xs b q s
noncomputable def kNode (xs:List Int) (a:Nat) (L:List (List Int)):NodeV × Nat :=
 if L.length=0 then kSrc xs a else if tv xs a 5=0 then kSrc xs (ta xs a 5)
 else kOp (tv xs (ta xs (ta xs a 5) L.length) 12) xs (ta xs (ta xs (ta xs a 5) L.length) 12) (tv xs (ta xs a 5) L.length).toNat (L.getD (tv xs (ta xs a 5) L.length).toNat []) L
theorem node_k {w0 w:World} {l:List Chunk} {i g:Nat} {A:Option Addr} {n c a:Nat} {xs:List Int} {Al:Option Addr} {nl cl:Nat} {L:List (List Int)} (hok:∀ s∈L,s.length≤4∧∀ x∈s,0≤x∧x≤32) (H:Sep w0 w l) (hi:l[i]? = some (TB g A n c a)) (hI:Ints w0 A n xs) (ha:a≤n) (hL:LilsK w0 l i g A n c Al nl L) :
  Calls Tryz.prog 12 #[.pointer (some ⟨g,0,none⟩),.slice Al nl cl] w (NodePost w0 l i g A n c (kNode xs a L)):=by
 have hl:=hL.1;rcases Nat.eq_zero_or_pos nl with e|e
 ·rw[kNode,if_pos (by omega)];exact node_src0 e H hi hI ha hL
 ·rw[kNode,if_neg (by omega)];by_cases h5:tv xs a 5=0
  ·rw[if_pos h5];exact node_src1 e h5 H hi hI ha hL
  ·rw[if_neg h5,hl];obtain⟨q,hq⟩:=Int.eq_ofNat_of_zero_le (tv_nonneg xs (ta xs a 5) nl);have hqn:=tv_lt xs (ta xs a 5) (show(0:Int)<nl by omega);obtain⟨s,hs⟩:∃ s,L[q]? = some s:=⟨_,List.getElem?_eq_getElem (by omega)⟩;have hsk:=hok s (List.mem_of_getElem? hs);have hgd:L.getD q []=s:=by rw[List.getD_eq_getElem?_getD,hs];rfl
   rw[hq,Int.toNat_natCast,hgd];have k0:=tv_nonneg xs (ta xs (ta xs a 5) nl) 12;have k1:=tv_lt xs (ta xs (ta xs a 5) nl) (show(0:Int)<12 by omega);obtain⟨K,hK⟩:∃ K,tv xs (ta xs (ta xs a 5) nl) 12=K:=⟨_,rfl⟩;rw[hK] at k0 k1 ⊢;have hcase:K=0∨K=1∨K=2∨K=3∨K=4∨K=5∨K=6∨K=7∨K=8∨K=9∨K=10∨K=11:=by omega
   unfold kOp;rcases hcase with rfl|rfl|rfl|rfl|rfl|rfl|rfl|rfl|rfl|rfl|rfl|rfl
   ·rw[if_pos rfl];exact node_op0 q _ h5 hq hs rfl hK H hi hI ha hL
   ·rw[if_neg (by decide)];rw[if_pos rfl];exact node_op1 q _ h5 hq hs rfl hK H hi hI ha hL
   ·rw[if_neg (by decide)];rw[if_neg (by decide)];rw[if_pos rfl];exact node_op2 q _ h5 hq hs rfl hK H hi hI ha hL
   ·rw[if_neg (by decide)];rw[if_neg (by decide)];rw[if_neg (by decide)];rw[if_pos rfl];exact node_op3 q _ h5 hq hs rfl hK H hi hI ha hL
   ·rw[if_neg (by decide)];rw[if_neg (by decide)];rw[if_neg (by decide)];rw[if_neg (by decide)];rw[if_pos rfl];exact node_op4 q _ h5 hq hs rfl hK hsk.1 H hi hI ha hL
   ·rw[if_neg (by decide)];rw[if_neg (by decide)];rw[if_neg (by decide)];rw[if_neg (by decide)];rw[if_neg (by decide)];rw[if_pos rfl];exact node_op5 q _ h5 hq hs rfl hK H hi hI ha hL
   ·rw[if_neg (by decide)];rw[if_neg (by decide)];rw[if_neg (by decide)];rw[if_neg (by decide)];rw[if_neg (by decide)];rw[if_neg (by decide)];rw[if_pos rfl];exact node_op6 q _ h5 hq hs rfl hK hsk H hi hI ha hL
   ·rw[if_neg (by decide)];rw[if_neg (by decide)];rw[if_neg (by decide)];rw[if_neg (by decide)];rw[if_neg (by decide)];rw[if_neg (by decide)];rw[if_neg (by decide)];rw[if_pos rfl];exact node_op7 q _ h5 hq hs rfl hK hsk.1 H hi hI ha hL
   ·rw[if_neg (by decide)];rw[if_neg (by decide)];rw[if_neg (by decide)];rw[if_neg (by decide)];rw[if_neg (by decide)];rw[if_neg (by decide)];rw[if_neg (by decide)];rw[if_neg (by decide)];rw[if_pos rfl];exact node_op8 q _ h5 hq hs rfl hK H hi hI ha hL
   ·rw[if_neg (by decide)];rw[if_neg (by decide)];rw[if_neg (by decide)];rw[if_neg (by decide)];rw[if_neg (by decide)];rw[if_neg (by decide)];rw[if_neg (by decide)];rw[if_neg (by decide)];rw[if_neg (by decide)];rw[if_pos rfl];exact node_op9 q _ h5 hq hs rfl hK hsk.1 H hi hI ha hL
   ·rw[if_neg (by decide)];rw[if_neg (by decide)];rw[if_neg (by decide)];rw[if_neg (by decide)];rw[if_neg (by decide)];rw[if_neg (by decide)];rw[if_neg (by decide)];rw[if_neg (by decide)];rw[if_neg (by decide)];rw[if_neg (by decide)];rw[if_pos rfl];rw[hl];exact node_op10 q _ h5 hq hs rfl hK H hi hI ha hL
   ·rw[if_neg (by decide)];rw[if_neg (by decide)];rw[if_neg (by decide)];rw[if_neg (by decide)];rw[if_neg (by decide)];rw[if_neg (by decide)];rw[if_neg (by decide)];rw[if_neg (by decide)];rw[if_neg (by decide)];rw[if_neg (by decide)];rw[if_neg (by decide)];exact node_op11 q _ h5 hq hs rfl hK H hi hI ha hL
structure MadeK (m n:Nat) (r:NodeV × Nat):Prop where
 ins:∀ k∈r.1.ins,0≤k∧k<(m:Int)
 few:r.1.ins.length≤3
 op:Fits r.1.op
 num:Fits r.1.n
 how:Fits r.1.how
 note:r.1.note=⟨#[]⟩
 at_:r.2≤n
theorem kSame_in:∀(L:List (List Int)) (k:Nat) (s:List Int),∀ x∈kSame k L s,(k:Int)≤x∧x<(k+L.length:Nat)
 | [],k,s,x,hx=>by simp[kSame] at hx
 | y::L,k,s,x,hx=>by
  rw[kSame] at hx;have ih:=kSame_in L (k+1) s x;rw[List.length_cons]
  split at hx
  ·rcases List.mem_cons.1 hx with rfl|hx
   ·omega
   ·have:=ih hx;omega
  ·have:=ih hx;omega
theorem kSame_get {L:List (List Int)} {s:List Int} (j:Nat) (h:0<L.length):0≤(kSame 0 L s).getD j 0∧(kSame 0 L s).getD j 0<(L.length:Int):=by
 rw[List.getD_eq_getElem?_getD]
 cases e:(kSame 0 L s)[j]? with
 | none=>simp;omega
 | some x =>
  have:=kSame_in L 0 s x (List.mem_of_getElem? e);simp only[Option.getD_some];omega
theorem fits_small {x:Int} (h : -100≤x) (g:x≤100):Fits x:=⟨by omega,by omega⟩
theorem made_src {xs:List Int} {a n m:Nat} (h:xs.length=n) (ha:a≤n):MadeK m n (kSrc xs a):=by
 have h1:=ta_le 4 h ha;have h2:=kShape_le h h1;rw[kSrc]
 split
 ·exact⟨by simp[ndV],by simp[ndV],fits_small (by simp[ndV]) (by simp[ndV]),kNum_fits _ _,fits_small (by simp[ndV]) (by simp[ndV]),rfl,kNum_le h h2.1⟩
 ·split
  ·exact⟨by simp[ndV],by simp[ndV],fits_small (by simp[ndV]) (by simp[ndV]),fits_small (by simp[ndV]) (by simp[ndV]),fits_small (by simp[ndV]) (by simp[ndV]),rfl,ta_le _ h h2.1⟩
  ·exact⟨by simp[ndV],by simp[ndV],fits_small (by simp[ndV]) (by simp[ndV]),fits_small (by simp[ndV]) (by simp[ndV]),fits_small (by simp[ndV]) (by simp[ndV]),rfl,h2.1⟩
section
variable {xs : List Int} {b n m q : Nat}
theorem mk_one {op:Int} {sh a:List Int} {k how:Int} {z:Nat} (hq:q<m) (h1 : -100≤op) (h2:op≤100) (h3:Fits k) (h4 : -100≤how) (h5:how≤100) (hz:z≤n):MadeK m n (ndV op [(q:Int)] sh a k how,z) :=
 ⟨by intro k hk;simp[ndV] at hk;subst hk;omega,by simp[ndV],fits_small h1 h2,h3,fits_small h4 h5,rfl,hz⟩
theorem fits0:Fits 0:=⟨by omega,by omega⟩
theorem made_op0 (h:xs.length=n) (hb:b≤n) (hq:q<m):MadeK m n (kOp0 xs b q):=by
 have h1:=tv_nonneg xs b 2;have h2:=tv_lt xs b (show(0:Int)<2 by omega);exact mk_one hq (by omega) (by omega) fits0 (by omega) (by omega) (ta_le _ h hb)
theorem made_op1 {s:List Int} {L:List (List Int)} (h:xs.length=n) (hb:b≤n) (hq:q<L.length):MadeK L.length n (kOp1 xs b q s L):=by
 have h1:=tv_nonneg xs b 6;have h2:=tv_lt xs b (show(0:Int)<6 by omega);refine⟨?_,by simp[kOp1,ndV],fits_small (by simp[kOp1,ndV];omega) (by simp[kOp1,ndV];omega),fits0,fits0,rfl,ta_le _ h (ta_le _ h hb)⟩;intro k hk;simp only[kOp1,ndV,List.mem_cons,List.not_mem_nil,or_false] at hk;rcases hk with rfl|rfl
 ·omega
 ·exact kSame_get _ (by omega)
theorem made_op3 {s:List Int} {L:List (List Int)} (h:xs.length=n) (hb:b≤n) (hq:q<L.length):MadeK L.length n (kOp3 xs b q s L):=by
 refine⟨?_,by simp[kOp3,ndV],fits_small (by simp[kOp3,ndV]) (by simp[kOp3,ndV]),fits0,fits0,rfl,ta_le _ h (ta_le _ h hb)⟩;intro k hk;simp only[kOp3,ndV,List.mem_cons,List.not_mem_nil,or_false] at hk;rcases hk with rfl|rfl|rfl
 ·omega
 ·exact kSame_get _ (by omega)
 ·exact kSame_get _ (by omega)
theorem kPerm_le (h:xs.length=n):∀(m j a:Nat) (p:List Int),a≤n→(kPerm xs m j a p).2≤n
 | 0,_,_,_,ha=>ha
 | m+1,j,_,_,ha=>kPerm_le h m (j+1) _ _ (ta_le _ h ha)
theorem made_op4 {s:List Int} (h:xs.length=n) (hb:b≤n) (hq:q<m):MadeK m n (kOp4 xs b q s) :=
 mk_one hq (by omega) (by omega) fits0 (by omega) (by omega) (kPerm_le h _ _ _ _ hb)
theorem made_op5 {s:List Int} (h:xs.length=n) (hb:b≤n) (hq:q<m):MadeK m n (kOp5 xs b q s):=by
 rw[kOp5]
 split
 ·exact mk_one hq (by omega) (by omega) fits0 (by omega) (by omega) hb
 ·exact mk_one hq (by omega) (by omega) fits0 (by omega) (by omega) (ta_le _ h (ta_le _ h hb))
theorem kCuts_le (h:xs.length=n):∀(s:List Int) (a:Nat),a≤n→(kCuts xs s a).2≤n
 | [],_,ha=>ha
 | _::s,_,ha=>kCuts_le h s _ (ta_le _ h (ta_le _ h ha))
theorem made_op6 {s:List Int} (h:xs.length=n) (hb:b≤n) (hq:q<m):MadeK m n (kOp6 xs b q s) :=
 mk_one hq (by omega) (by omega) fits0 (by omega) (by omega) (kCuts_le h _ _ hb)
theorem kPads_le (h:xs.length=n):∀(m a:Nat),a≤n→(kPads xs m a).2≤n
 | 0,_,ha=>ha
 | m+1,_,ha=>kPads_le h m _ (ta_le _ h (ta_le _ h ha))
theorem made_op7 {s:List Int} (h:xs.length=n) (hb:b≤n) (hq:q<m):MadeK m n (kOp7 xs b q s) :=
 mk_one hq (by omega) (by omega) (kNum_fits _ _) (by omega) (by omega) (kNum_le h (kPads_le h _ _ hb))
theorem made_op8 {s:List Int} {L:List (List Int)} (h:xs.length=n) (hb:b≤n) (hq:q<L.length):MadeK L.length n (kOp8 xs b q s L):=by
 rw[kOp8]
 split
 ·exact mk_one hq (by omega) (by omega) fits0 (by omega) (by omega) hb
 ·refine⟨?_,by simp[ndV];omega,fits_small (by simp[ndV]) (by simp[ndV]),fits0,fits0,rfl,ta_le _ h (ta_le _ h (ta_le _ h hb))⟩;intro k hk;have hk:=List.mem_of_mem_take hk;simp only[List.mem_cons,List.not_mem_nil,or_false] at hk;rcases hk with rfl|rfl|rfl
  ·omega
  ·exact kSame_get _ (by omega)
  ·omega
theorem kFolds_le (h:xs.length=n):∀(m j a:Nat),a≤n→(kFolds xs m j a).2≤n
 | 0,_,_,ha=>ha
 | m+1,j,a,ha=>by
  rw[kFolds]
  split
  ·exact kFolds_le h m _ _ (ta_le _ h ha)
  ·exact kFolds_le h m _ _ (ta_le _ h ha)
theorem made_op9 {s:List Int} (h:xs.length=n) (hb:b≤n) (hq:q<m):MadeK m n (kOp9 xs b q s):=by
 have h1:=tv_nonneg xs (kFolds xs s.length 0 b).2 4;have h2:=tv_lt xs (kFolds xs s.length 0 b).2 (show(0:Int)<4 by omega);exact mk_one hq (by omega) (by omega) fits0 (by omega) (by omega) (ta_le _ h (kFolds_le h _ _ _ hb))
theorem made_dot {L:List (List Int)} {s:List Int} (h:xs.length=n) (hq:q<L.length):∀(m k a:Nat),a≤n→MadeK L.length n (kDot xs L s q m k a)
 | 0,k,a,ha=>mk_one hq (by omega) (by omega) fits0 (by omega) (by omega) ha
 | m+1,k,a,ha=>by
  have hin:∀ x∈[(q:Int),(((k+(tv xs a 3).toNat) % L.length:Nat):Int)],0≤x∧x<(L.length:Int):=by
   intro x hx;simp only[List.mem_cons,List.not_mem_nil,or_false] at hx;have:=Nat.mod_lt (k+(tv xs a 3).toNat) (show 0<L.length by omega);rcases hx with rfl|rfl <;> omega
  rw[kDot]
  split
  ·exact⟨hin,by simp[ndV],fits_small (by simp[ndV]) (by simp[ndV]),fits0,fits0,rfl,ta_le _ h ha⟩
  ·split
   ·exact⟨hin,by simp[ndV],fits_small (by simp[ndV]) (by simp[ndV]),fits0,fits0,rfl,ta_le _ h ha⟩
   ·exact made_dot h hq m (k+1) _ (ta_le _ h ha)
theorem made_op11 {s:List Int} (h:xs.length=n) (hb:b≤n) (hq:q<m):MadeK m n (kOp11 xs b q s):=by
 rw[kOp11]
 split
 ·exact mk_one hq (by omega) (by omega) fits0 (by omega) (by omega) hb
 ·have h1:=tv_nonneg xs (ta xs (ta xs (ta xs b s.length) 3) 2) 4;have h2:=tv_lt xs (ta xs (ta xs (ta xs b s.length) 3) 2) (show(0:Int)<4 by omega);exact mk_one hq (by omega) (by omega) fits0 (by omega) (by omega) (ta_le _ h (ta_le _ h (ta_le _ h (ta_le _ h hb))))
theorem made_node {L:List (List Int)} {a:Nat} (h:xs.length=n) (ha:a≤n):MadeK L.length n (kNode xs a L):=by
 rw[kNode]
 split
 ·exact made_src h ha
 ·split
  ·exact made_src h (ta_le _ h ha)
  ·have h0:0<L.length:=by omega
   have h1:=tv_nonneg xs (ta xs a 5) L.length;have h2:=tv_lt xs (ta xs a 5) (show(0:Int)<(L.length:Int) by omega);have hq:(tv xs (ta xs a 5) L.length).toNat<L.length:=by omega
   have hb:ta xs (ta xs (ta xs a 5) L.length) 12≤n:=ta_le _ h (ta_le _ h (ta_le _ h ha));generalize (tv xs (ta xs a 5) L.length).toNat=q at *;generalize ta xs (ta xs (ta xs a 5) L.length) 12=b at *;generalize tv xs (ta xs (ta xs a 5) L.length) 12=K at *;generalize L.getD q []=s at *;unfold kOp;by_cases k0:K=0
   ·rw[if_pos k0];exact made_op0 h hb hq
   rw[if_neg k0];by_cases k1:K=1
   ·rw[if_pos k1];exact made_op1 h hb hq
   rw[if_neg k1];by_cases k2:K=2
   ·rw[if_pos k2];exact made_op1 h hb hq
   rw[if_neg k2];by_cases k3:K=3
   ·rw[if_pos k3];exact made_op3 h hb hq
   rw[if_neg k3];by_cases k4:K=4
   ·rw[if_pos k4];exact made_op4 h hb hq
   rw[if_neg k4];by_cases k5:K=5
   ·rw[if_pos k5];exact made_op5 h hb hq
   rw[if_neg k5];by_cases k6:K=6
   ·rw[if_pos k6];exact made_op6 h hb hq
   rw[if_neg k6];by_cases k7:K=7
   ·rw[if_pos k7];exact made_op7 h hb hq
   rw[if_neg k7];by_cases k8:K=8
   ·rw[if_pos k8];exact made_op8 h hb hq
   rw[if_neg k8];by_cases k9:K=9
   ·rw[if_pos k9];exact made_op9 h hb hq
   rw[if_neg k9];by_cases k10:K=10
   ·rw[if_pos k10];exact made_dot h hq _ _ _ hb
   rw[if_neg k10];exact made_op11 h hb hq
end
namespace Sh
end Sh
def Near (f:List Int):Prop:=∀ x∈f,0≤x∧x≤32
theorem cut_right_z:∀ {s f z:List Int},cutOk s f z=true→(∀ x∈s,0≤x∧x≤32)→0≤Sh.pd z∧Sh.pd z≤Sh.pd s∧(∀ x∈z,0≤x∧x≤32)∧(∀ x∈f,0≤x∧x≤32)
 | [],[],[],_,_=>by simp[Sh.pd]
 | n::s,x::f,y::z,h,hd=>by
  simp only[cutOk,Bool.and_eq_true,decide_eq_true_eq] at h;obtain⟨h1,h2,h3,h4⟩:=cut_right_z h.2 fun x hx=>hd x (by simp[hx])
  have hn:=hd n (by simp);refine⟨?_,?_,?_,?_⟩
  ·rw[Sh.pd];exact Int.mul_nonneg (by omega) h1
  ·rw[Sh.pd,Sh.pd];exact Int.mul_le_mul (by omega) h2 h1 (by omega)
  ·intro u hu;rcases List.mem_cons.1 hu with rfl|hu
   ·omega
   ·exact h3 u hu
  ·intro u hu;rcases List.mem_cons.1 hu with rfl|hu
   ·omega
   ·exact h4 u hu
 | [],_::_,_,h,_=>by simp[cutOk] at h
 | [],[],_::_,h,_=>by simp[cutOk] at h
 | _::_,[],_,h,_=>by simp[cutOk] at h
 | _::_,_::_,[],h,_=>by simp[cutOk] at h
theorem cut_fine {s f z:List Int} (hr:Sh.right s=true) (h:cutOk s f z=true):Sh.right z=true∧Near f:=by
 have hs:=Sh.right_iff.1 hr;obtain⟨h1,h2,h3,h4⟩:=cut_right_z h hs.2.1;refine⟨Sh.right_iff.2 ⟨by rw[(cutOk_len h).2];exact hs.1,h3,?_⟩,h4⟩;have:=hs.2.2;rw[Sh.pr_pd] at this ⊢;omega
end Go.Proofs.YtnnmplkgenhofaaGreat
