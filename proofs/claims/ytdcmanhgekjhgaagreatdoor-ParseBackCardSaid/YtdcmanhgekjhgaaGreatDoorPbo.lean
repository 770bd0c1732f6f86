import Derived.Test.YtdcmanhgekjhgaaGreatDoorPbn
set_option maxRecDepth 100000
set_option maxHeartbeats 12800000
namespace Go.Proofs.YtdcmanhgekjhgaaGreatDoor
open Go.RowKit Go.Proofs.Tryz
variable {A Al:Option Addr} {L:List (List Int)} {a c cl g i n nl:Nat} {l:List a0e} {s xs:List Int} {w w0:World}
def kOp3 (xs:List Int) (b q:Nat) (s:List Int) (L:List (List Int)):a0l × Nat :=
 (ndV 12 [(q:Int),(a2w 0 L s).getD (tv xs b (a2w 0 L s).length).toNat 0,(a2w 0 L s).getD (tv xs (ta xs b (a2w 0 L s).length) (a2w 0 L s).length).toNat 0] [] [] 0 0,ta xs (ta xs b (a2w 0 L s).length) (a2w 0 L s).length)
def kAx (k:Nat):Nat→Nat→List Int
 | 0,_=>[]
 | m+1,j=>if j=k then kAx k m (j+1) else(j:Int)::kAx k m (j+1)
def kOp5 (xs:List Int) (b q:Nat) (s:List Int):a0l × Nat :=
 if 2<s.length then(ndV 4 [(q:Int)] [] [] 0 0,b)
 else(ndV 14 [(q:Int)] (s.take (tv xs b (s.length+1)).toNat++[1+tv xs (ta xs b (s.length+1)) 4]++s.drop (tv xs b (s.length+1)).toNat) (kAx (tv xs b (s.length+1)).toNat (s.length+1) 0) 0 0,ta xs (ta xs b (s.length+1)) 4)
theorem e1z (q b:Nat)(h5:¬ tv xs a 5=0)(hq:tv xs (ta xs a 5) nl=q)(hs:L[q]?=some s)(hb:ta xs (ta xs (ta xs a 5) nl) 12=b)(hk:tv xs (ta xs (ta xs a 5) nl) 12=3)(H:Sep w0 w l)(hi:l[i]?=some (TB g A n c a))(hI:Ints w0 A n xs)(ha:a≤n)(hL:a6v w0 l i g A n c Al nl L):
  Calls prog 24 #[.pointer (some ⟨g,0,none⟩),.slice Al nl cl] w (a3g w0 l i g A n c (kOp3 xs b q s L)):=by
 obtain⟨KS,hKS⟩:∃ q0,kOp3 xs b q s L=q0:=⟨_,rfl⟩;rw[hKS];have HKS:=Hd hKS;clear hKS;have HXL:=Hd hI.len;have HI:=Hd hI;have hnle:=hI.le;have hll:=hL.1;have hln:=hL.2.1;have HLL:=Hd hll;have HLK:=Hd hL;have HK:Hid (KT l i (TB g A n c a) l):=Hd ⟨hi,fun _=>rfl⟩;clear hll;have h1:=(((H.allocBox w.heap.size 49 zN rfl).addNil 3).addNil 3).addNil 3
 go_enter func24,ntmps24
 go_upto_region 1 with fail
 generalize w.alloc (.cells zA 49)=W at *;generalize w.heap.size=gr at *;clear H hi hI hL;have H:Hid (Sep w0 W ([oN,oN,oN,.box gr 49 zN]++l)):=Hd h1;clear h1;have hnl:0<nl:=by have h8:L.length=nl:=HLL.out;have:=(lL hs);omega
 have dn:((nl:Int)==0)=false:=by simp;omega
 have HQ0:=Hd hq;have HB0:=Hd hb;have HK0:=Hd hk;have HS0:=Hd hs;have h5n:=Hd h5;clear hq hb hk hs h5
 go_wp2_with fail
 refine(a0x (5) H HK HI ha (by omega) ⟨by omega,by omega⟩).mono ?_;clear H HK;rintro e1 w1 ⟨r1,a1,l1,rfl,HR1,br1,HA1,ba1,HK,H⟩;have d5:((r1:Int)==0)=false:=by have h8:=HR1.out;have h9:=h5n.out;rw[h8] at h9;simpa using h9
 go_wp2_with fail
 refine(a0x ((nl:Int)) H HK HI ba1 (by omega) ⟨by omega,by omega⟩).mono ?_;clear H HK;rintro e2 w2 ⟨r2,a2,l2,rfl,HR2,br2,HA2,ba2,HK,H⟩;obtain rfl:r2=q:=by have h8:=HR2.out;have h9:=HQ0.out;rw[HA1.out,h8] at h9;omega
 obtain⟨la,Bs,ms,cap,hAl,hmc,hst⟩:=HLK.out.2.2 r2 s HS0;subst hAl;have HST:=Hd hst;obtain⟨hlb,hcl,hIs⟩:=hst w2 a2 l2 HK H.rest_;have HSL:=Hd hIs.len;have hmsl:=hIs.le;have hr2:r2<nl:=by omega
 clear hst hIs hlb
 go_wp2_with fail
 clear hcl;refine(a0x (12) H HK HI ba2 (by omega) ⟨by omega,by omega⟩).mono ?_;clear H HK;rintro e3 w3 ⟨r3,a3,l3,rfl,HR3,br3,HA3,ba3,HK,H⟩;obtain rfl:r3=3:=by have h8:=HR3.out;have h9:=HK0.out;rw[HA1.out,HA2.out,h8] at h9;omega
 obtain rfl:a3=b:=by have h8:=HA3.out;have h9:=HB0.out;rw[HA1.out,HA2.out,h8] at h9;exact h9
 clear HR1 HR2 HR3 HQ0 HB0 HK0 h5n d5 dn
 go_wp2_with fail
 refine(d1u (c:=cap) (HLK.lils HK H.rest_) (HST _ _ _ HK H.rest_).2.2).mono ?_;rintro e9 w9 ⟨⟨v9,m9,rfl,hO⟩,hb9⟩;have HPOS:=Hd (a9x (k:=0) HS0);have HML:=Hd hO.len;have hm9:0<m9:=by have h8:=HML.out;have h9:=HPOS.out;omega
 obtain⟨gl,cl9,hv,_⟩:=hO.own hm9;subst hv;have hm900:m9≤90000:=by have h8:=HML.out;have h9:=a9w s L 0;have h10:L.length=nl:=HLL.out;omega
 obtain⟨LS,hLS⟩:∃ q,a2w 0 L s=q:=⟨_,rfl⟩;rw[hLS] at hO;have HLS:=Hd hLS;have h9:=H.addOwn hb9 hO;replace H:Hid (Sep w0 w9 ([.own 3 (.slice (some ⟨gl,0,none⟩) m9 cl9) m9 LS,oN,oN,oN,.box gr 49 zN]++l3)):=Hd h9;have HMS:Hid (LS.length=m9):=Hd (by rw[←hLS];exact HML);clear hO hb9 h9 hLS HML HPOS;have b0:=a0q xs a3 ((m9:Int));have b1:=a4b xs a3 (show(0:Int)<(m9:Int) by omega);obtain⟨r4,hr⟩:∃ z,tv xs a3 ((m9:Int))=z:=⟨_,rfl⟩;rw[hr] at b0 b1;obtain⟨r4,rfl⟩:=eZ b0;have HR4:=Hd hr;have br4:(r4:Int)<(m9:Int):=b1;obtain⟨a4,ha4⟩:∃ z,ta xs a3 ((m9:Int))=z:=⟨_,rfl⟩;have HA4:=Hd ha4;clear hr ha4 b0 b1;have ba4:a4≤n:=by rw[←HA4.out];exact a1p _ HXL ba3
 have b0:=a0q xs a4 ((m9:Int));have b1:=a4b xs a4 (show(0:Int)<(m9:Int) by omega);obtain⟨r5,hr⟩:∃ z,tv xs a4 ((m9:Int))=z:=⟨_,rfl⟩;rw[hr] at b0 b1;obtain⟨r5,rfl⟩:=eZ b0;have HR5:=Hd hr;have br5:(r5:Int)<(m9:Int):=b1;obtain⟨a5,ha5⟩:∃ z,ta xs a4 ((m9:Int))=z:=⟨_,rfl⟩;have HA5:=Hd ha5;clear hr ha5 b0 b1;have ba5:a5≤n:=by rw[←HA5.out];exact a1p _ HXL ba4
 obtain⟨y4,hy⟩:∃ y,LS[r4]?=some y:=gE (by have h8:=HMS.out;omega);have HY4:=Hd hy;obtain⟨fy4,fz4⟩:=(H.own 0 rfl).2.1 y4 (mG hy);have hn4:r4<m9:=by omega
 clear hy;obtain⟨y5,hy⟩:∃ y,LS[r5]?=some y:=gE (by have h8:=HMS.out;omega);have HY5:=Hd hy;obtain⟨fy5,fz5⟩:=(H.own 0 rfl).2.1 y5 (mG hy);have hn5:r5<m9:=by omega
 clear hy
 go_upto_region 23 with fail
 have H0:=Hd H.drew;have c4:=(H0.own 0 rfl).cell HY4;have c5:=(H0.own 0 rfl).cell HY5;refine wp_region_held_drew (S:=(fun w'=>w'.cell? ⟨gl,r4,none⟩=some (.int .i64 y4)∧w'.cell? ⟨gl,r5,none⟩=some (.int .i64 y5))) (by kernel_rfl) ?_ (fun hq_=>?_)
 ·exact⟨c4,c5⟩
 refine zV 0 hq_ ?_;refine zV 1 hq_ ?_;refine zV 2 hq_ ?_;refine zV 3 hq_ ?_;refine zV 4 hq_ ?_;refine zV 8 hq_ ?_;refine zV 9 hq_ ?_;refine zV 10 hq_ ?_;refine zV 11 hq_ ?_;refine e1 5 fun K hK=>?_
 first|(refine effU ?_ ?_;(focus rfl))|(go_simp;(go_at_call 23;refine(b0d ((m9:Int)) H0 HK HI ba3 ⟨by omega,by omega⟩).mono ?_;rintro e4 w4 ⟨rfl,l4,hK,hS⟩;rw[HR4.out];rw[HA4.out] at hK;have HK4:=Hd hK;have H4:Hid (Sep w0 w4 ([.own 3 (.slice (some ⟨gl,0,none⟩) m9 cl9) m9 LS,oN,oN,oN,.box gr 49 zN]++l4)):=Hd hS;have d4:=(H4.own 0 rfl).cell HY4;have d5:=(H4.own 0 rfl).cell HY5;clear hK hS);go_wp2_with fail)
 refine zX hK (fun hq_=>?_) ⟨d4,d5⟩;refine zV 6 hq_ ?_;refine zV 7 hq_ ?_;refine e1 12 fun K hK=>?_
 first|(refine effU ?_ ?_;(focus rfl))|(go_simp;(go_at_call 23;refine(b0d ((m9:Int)) H4 HK4 HI ba4 ⟨by omega,by omega⟩).mono ?_;rintro e5 w5 ⟨rfl,l5,hK,hS⟩;rw[HR5.out];rw[HA5.out] at hK;have HK5:=Hd hK;have H5:Hid (Sep w0 w5 ([.own 3 (.slice (some ⟨gl,0,none⟩) m9 cl9) m9 LS,oN,oN,oN,.box gr 49 zN]++l5)):=Hd hS;have e4:=(H5.own 0 rfl).cell HY4;have e5:=(H5.own 0 rfl).cell HY5;clear hK hS);go_wp2_with fail)
 refine zX hK (fun hq_=>?_) ⟨e4,e5⟩;refine zV 13 hq_ ?_;refine zV 14 hq_ ?_;refine e1 15 fun K hK=>?_;go_simp;(try go_wp2_with fail);refine zX hK (fun hq_=>?_) ⟨a1u _ e4,a1u _ e5⟩;refine zV 16 hq_ ?_;refine e1 17 fun K hK=>?_;(have H6:Hid (Sep w0 (w5.alloc (.cells #[.int .i64 (r2:Int),.int .i64 y4,.int .i64 y5] 3)) ([.own 3 (.slice (some ⟨w5.heap.size,0,none⟩) 3 3) 3 [(r2:Int),y4,y5],.own 3 (.slice (some ⟨gl,0,none⟩) m9 cl9) m9 LS,oN,oN,oN,.box gr 49 zN]++l5)):=Hd (H5.lit 3 #[.int .i64 (r2:Int),.int .i64 y4,.int .i64 y5] [(r2:Int),y4,y5] 3 _ rfl rfl (by simp[a1e];omega));obtain⟨rc0,rc1,rc2,rc3,rc4,rc5,rc6⟩:=H6.cells7 5 rfl;obtain⟨fr0,fr1,fr2,fr3,fr4,fr5,fr6⟩:=H6.f7 5 rfl;have HF:Hid (Sep w0 ((((((((w5.alloc (.cells #[.int .i64 (r2:Int),.int .i64 y4,.int .i64 y5] 3)).setCell ⟨gr,0,none⟩ (.int .i64 12)).setCell ⟨gr,1,none⟩ (.slice (some ⟨w5.heap.size,0,none⟩) 3 3)).setCell ⟨gr,2,none⟩ (.slice none 0 0)).setCell ⟨gr,3,none⟩ (.slice none 0 0)).setCell ⟨gr,4,none⟩ (.int .i64 0)).setCell ⟨gr,5,none⟩ (.int .i64 0)).setCell ⟨gr,6,none⟩ (.string ⟨#[]⟩)) ([.own 3 (.slice (some ⟨w5.heap.size,0,none⟩) 3 3) 3 [(r2:Int),y4,y5],.own 3 (.slice (some ⟨gl,0,none⟩) m9 cl9) m9 LS,oN,oN,oN,.box gr 49 [.int .i64 12,.slice (some ⟨w5.heap.size,0,none⟩) 3 3,.slice none 0 0,.slice none 0 0,.int .i64 0,.int .i64 0,.string ⟨#[]⟩]]++l5)):=Hd (H6.set7 5 rfl (.int .i64 12) (.slice (some ⟨w5.heap.size,0,none⟩) 3 3) (.slice none 0 0) (.slice none 0 0) (.int .i64 0) (.int .i64 0) (.string ⟨#[]⟩));have f4:=(HF.own 1 rfl).cell HY4;have f5:=(HF.own 1 rfl).cell HY5;go_simp;try go_wp2_with fail);refine zX hK (fun hq_=>?_) ⟨f4,f5⟩;refine dN ?_;have HX:=Hd (show KS=(ndV 12 [(r2:Int),y4,y5] [] [] 0 0,a5) by rw[←HKS.out,kOp3,HLS.out,HMS.out,HR4.out,HA4.out,HR5.out,HA5.out,Int.toNat_natCast,Int.toNat_natCast,gD,gD,HY4.out,HY5.out];rfl);go_wp2;refine a1g HF 5 rfl results24 rfl rfl ?_;rw[HX.out];exact⟨_,_,_,_,_,_,rfl,_,HK5,Sep.pick HF [0,2,3] rfl (by decide)⟩
theorem e2b (q b:Nat)(h5:¬ tv xs a 5=0)(hq:tv xs (ta xs a 5) nl=q)(hs:L[q]?=some s)(hb:ta xs (ta xs (ta xs a 5) nl) 12=b)(hk:tv xs (ta xs (ta xs a 5) nl) 12=5)(H:Sep w0 w l)(hi:l[i]?=some (TB g A n c a))(hI:Ints w0 A n xs)(ha:a≤n)(hL:a6v w0 l i g A n c Al nl L):
  Calls prog 24 #[.pointer (some ⟨g,0,none⟩),.slice Al nl cl] w (a3g w0 l i g A n c (kOp5 xs b q s)):=by
 obtain⟨KS,hKS⟩:∃ q0,kOp5 xs b q s=q0:=⟨_,rfl⟩;rw[hKS];have HKS:=Hd hKS;clear hKS;have HXL:=Hd hI.len;have HI:=Hd hI;have hnle:=hI.le;have hll:=hL.1;have hln:=hL.2.1;have HLL:=Hd hll;have HLK:=Hd hL;have HK:Hid (KT l i (TB g A n c a) l):=Hd ⟨hi,fun _=>rfl⟩;clear hll;have h1:=(((H.allocBox w.heap.size 49 zN rfl).addNil 3).addNil 3).addNil 3
 go_enter func24,ntmps24
 go_upto_region 1 with fail
 generalize w.alloc (.cells zA 49)=W at *;generalize w.heap.size=gr at *;clear H hi hI hL;have H:Hid (Sep w0 W ([oN,oN,oN,.box gr 49 zN]++l)):=Hd h1;clear h1;have hnl:0<nl:=by have h8:L.length=nl:=HLL.out;have:=(lL hs);omega
 have dn:((nl:Int)==0)=false:=by simp;omega
 have HQ0:=Hd hq;have HB0:=Hd hb;have HK0:=Hd hk;have HS0:=Hd hs;have h5n:=Hd h5;clear hq hb hk hs h5
 go_wp2_with fail
 refine(a0x (5) H HK HI ha (by omega) ⟨by omega,by omega⟩).mono ?_;clear H HK;rintro e1 w1 ⟨r1,a1,l1,rfl,HR1,br1,HA1,ba1,HK,H⟩;have d5:((r1:Int)==0)=false:=by have h8:=HR1.out;have h9:=h5n.out;rw[h8] at h9;simpa using h9
 go_wp2_with fail
 refine(a0x ((nl:Int)) H HK HI ba1 (by omega) ⟨by omega,by omega⟩).mono ?_;clear H HK;rintro e2 w2 ⟨r2,a2,l2,rfl,HR2,br2,HA2,ba2,HK,H⟩;obtain rfl:r2=q:=by have h8:=HR2.out;have h9:=HQ0.out;rw[HA1.out,h8] at h9;omega
 obtain⟨la,Bs,ms,cap,hAl,hmc,hst⟩:=HLK.out.2.2 r2 s HS0;subst hAl;have HST:=Hd hst;obtain⟨hlb,hcl,hIs⟩:=hst w2 a2 l2 HK H.rest_;have HSL:=Hd hIs.len;have hmsl:=hIs.le;have hr2:r2<nl:=by omega
 clear hst hIs hlb
 go_wp2_with fail
 clear hcl;refine(a0x (12) H HK HI ba2 (by omega) ⟨by omega,by omega⟩).mono ?_;clear H HK;rintro e3 w3 ⟨r3,a3,l3,rfl,HR3,br3,HA3,ba3,HK,H⟩;obtain rfl:r3=5:=by have h8:=HR3.out;have h9:=HK0.out;rw[HA1.out,HA2.out,h8] at h9;omega
 obtain rfl:a3=b:=by have h8:=HA3.out;have h9:=HB0.out;rw[HA1.out,HA2.out,h8] at h9;exact h9
 clear HR1 HR2 HR3 HQ0 HB0 HK0 h5n d5 dn;by_cases h2:2<ms
 ·have d2:decide (2<ms)=true:=by simpa using h2
  replace H:=Hd (H.litP 3 #[.int .i64 ((r2:Int))] [((r2:Int))] 1 rfl (by first|(simp[a1e];done)|(simp[a1e];omega)));have HX:=Hd (show KS=(ndV 4 [(r2:Int)] [] [] 0 0,a3) by rw[←HKS.out,kOp5,iP (by have h8:=HSL.out;omega)]);obtain⟨rc0,rc1,rc2,rc3,rc4,rc5,rc6⟩:=H.cells7 4 rfl;obtain⟨fr0,fr1,fr2,fr3,fr4,fr5,fr6⟩:=H.f7 4 rfl;have HF:=Hd (H.set7 4 rfl (.int .i64 4) (.slice (some ⟨w3.heap.size,0,none⟩) 1 1) (.slice none 0 0) (.slice none 0 0) (.int .i64 0) (.int .i64 0) (.string ⟨#[]⟩));go_wp2;refine a1g HF 4 rfl results24 rfl rfl ?_;rw[HX.out];exact⟨_,_,_,_,_,_,rfl,_,HK,Sep.pick HF [0,1,2] rfl (by decide)⟩
 ·have d2:decide (2<ms)=false:=by simpa using h2
  have HN2:=Hd h2;have hms2:ms≤2:=by omega
  clear h2
  go_wp2_with fail
  refine(a0x ((ms:Int)+1) H HK HI ba3 (by omega) ⟨by omega,by omega⟩).mono ?_;clear H HK;rintro e4 w4 ⟨r4,a4,l4,rfl,HR4,br4,HA4,ba4,HK,H⟩;have hk:r4≤ms:=by omega
  have hsl1:=a7i ((HST _ _ _ HK H.rest_).2.2) hk hmc;have hsl2:=b0m ((HST _ _ _ HK H.rest_).2.2) hk hmc;obtain⟨A8,hA8⟩:∃ A8,dropA Bs cap r4=A8:=⟨_,rfl⟩;rw[hA8] at hsl2;have HI8:Hid (∀ w,Ints w Bs ms s→Ints w A8 (ms-r4) (s.drop r4)):=Hd (fun w h=>by have h9:=h.dropA hk hmc;rw[hA8] at h9;exact h9);clear hA8
  go_upto_region 37 with fail
  have H0:=Hd H.drew;refine wp_region_held_drew (S:=(fun _=>True)) (by kernel_rfl) ?_ (fun hq_=>?_)
  ·trivial
  refine zV 1 hq_ ?_;refine zV 2 hq_ ?_;refine zV 3 hq_ ?_;refine zV 5 hq_ ?_;refine zV 10 hq_ ?_;refine zV 11 hq_ ?_;refine zV 12 hq_ ?_;refine e1 0 fun K hK=>?_;go_simp;(try go_wp2_with fail);refine zX hK fun hq_=>?_;refine e1 4 fun K hK=>?_;(have Ge:=Hd (H0.empty 3);refine a0k rfl (.tmp 165) (.tmp 168) 25 3 rfl underlying25 Tryz.infoInt Ge.out 0 rfl rfl Bs r4 cap (s.take r4) rfl (((HST.out _ _ _ HK.out Ge.tail_.rest_).2.2).take hk) ?_ ?_;(focus omega);intro y1 z1 h5;have G4:Hid (Sep w0 z1 ([.own 3 y1 (0+r4) (s.take r4),oN,oN,oN,.box gr 49 zN]++l4)):=Hd h5;clear h5 Ge);refine zX hK fun hq_=>?_;refine e1 6 fun K hK=>?_
  first|(refine effU ?_ ?_;(focus rfl))|(go_simp;(go_at_call 23;refine(b0d 4 G4 HK HI ba4 ⟨by omega,by omega⟩).mono ?_;rintro e30 w30 ⟨rfl,l30,hK30,hS30⟩;have b0:=a0q xs a4 4;have b1:=a4b xs a4 (show(0:Int)<4 by omega);obtain⟨r30,hr30⟩:∃ z,tv xs a4 4=z:=⟨_,rfl⟩;rw[hr30] at b0 b1 ⊢;obtain⟨r30,rfl⟩:=eZ b0;have HR30:=Hd hr30;obtain⟨a30,ha30⟩:∃ z,ta xs a4 4=z:=⟨_,rfl⟩;have ba30:=a1p 4 HXL ba4;rw[ha30] at ba30 hK30;have HA30:=Hd ha30;have HK30:=Hd hK30;have G5:Hid (Sep w0 w30 ([.own 3 y1 (0+r4) (s.take r4),oN,oN,oN,.box gr 49 zN]++l30)):=Hd hS30;have hwd:IntKind.i64.wrap (1+(r30:Int))=1+(r30:Int):=IntWalk.i64_in _ ⟨by omega,by omega⟩;clear hr30 ha30 hK30 hS30 b0);go_wp2_with fail)
  refine zX hK fun hq_=>?_;refine zV 7 hq_ ?_;refine e1 8 fun K hK=>?_;go_simp;(try go_wp2_with fail);refine zX hK fun hq_=>?_;refine e1 9 fun K hK=>?_;(refine a0n rfl (.tmp 169) (.tmp 173) 25 3 rfl underlying25 Tryz.infoInt G5.out 0 rfl rfl (1+(r30:Int)) ⟨by omega,by omega⟩ _ rfl ?_ ?_;(focus omega);intro y2 z2 h5;have G6:Hid (Sep w0 z2 ([.own 3 y2 (0+r4+1) (s.take r4++[1+(r30:Int)]),oN,oN,oN,.box gr 49 zN]++l30)):=Hd h5;clear h5);refine zX hK fun hq_=>?_;refine e1 13 fun K hK=>?_;(refine a0k rfl (.tmp 174) (.tmp 177) 25 3 rfl underlying25 Tryz.infoInt G6.out 0 rfl rfl A8 (ms-r4) (cap-r4) (s.drop r4) rfl (HI8.out _ (HST.out _ _ _ HK30.out G6.rest_).2.2) ?_ ?_;(focus omega);intro y3 z3 h5;have G7:Hid (Sep w0 z3 ([.own 3 y3 (0+r4+1+(ms-r4)) (s.take r4++[1+(r30:Int)]++s.drop r4),oN,oN,oN,.box gr 49 zN]++l30)):=Hd h5;clear h5);refine zX hK fun hq_=>?_;refine zV 14 hq_ ?_;refine dN ?_;have hmo:=Hd (show 0+r4+1+(ms-r4)=ms+1 by omega);obtain⟨O,hO⟩:∃ O,s.take r4++[1+(r30:Int)]++s.drop r4=O:=⟨_,rfl⟩;have HO:=Hd hO;have h9:=G7.out;rw[hmo.out,hO] at h9;obtain⟨Ao,co,hv,hmco,_,_⟩:=(h9.ownS 0 rfl).form;subst hv;replace H:Hid (Sep w0 z3 ([.own 3 (.slice Ao (ms+1) co) (ms+1) O,oN,oN,oN,.box gr 49 zN]++l30)):=Hd h9;clear h9 hO G4 G5 G6 G7 H0 hsl1 hsl2 hwd;replace H:Hid (Sep w0 z3 ([oN,.own 3 (.slice Ao (ms+1) co) (ms+1) O,oN,oN,oN,.box gr 49 zN]++l30)):=Hd (H.addNil 3)
  go_wp2_with fail
  go_loopw [181,16] (fun iv av wr=>∃(j:Nat) (va:Value) (acc:List Int),va=av∧iv=.int .i64 j∧j≤ms+1∧acc.length≤j∧acc++kAx r4 (ms+1-j) j=kAx r4 (ms+1) 0∧Sep w0 wr ([.own 3 va acc.length acc,.own 3 (.slice Ao (ms+1) co) (ms+1) O,oN,oN,oN,.box gr 49 zN]++l30)) (fun iv _ _=>ms+1-(intOf iv).toNat)
  case atStart=>exact⟨0,_,[],rfl,rfl,by omega,Nat.le_refl _,rfl,H⟩
  case round =>
   clear H;obtain⟨j,va,acc,rfl,rfl,hj,hal,hq,hS⟩:=hrel;have H:=Hd hS;have HQ:=Hd hq;clear hS hq;by_cases hlt:j<ms+1
   ·obtain⟨m,hm⟩:∃ m,ms+1-j=m+1:=⟨ms-j,by omega⟩;have HM:=Hd (show ms+1-(j+1)=m by omega);have HQD:=Hd (show acc++kAx r4 (m+1) j=kAx r4 (ms+1) 0 by rw[←hm];exact HQ);clear hm;have dl:decide ((j:Int)<((ms+1:Nat):Int))=true:=by simp;omega
    have dl2:decide (j<ms+1)=true:=by simpa using hlt
    by_cases hjk:j=r4
    ·have dk:((j:Int) != (r4:Int))=false:=by simp;omega
     have HQE:=Hd (show acc++kAx r4 m (j+1)=kAx r4 (ms+1) 0 by have h7:=HQD.out;rw[kAx,iP hjk] at h7;exact h7);have HJK:=Hd hjk;clear hjk;go_wp2;go_roundw
     case rel=>exact⟨j+1,_,acc,rfl,by go_num,by omega,by omega,by rw[HM.out];exact HQE,H⟩
     case measure=>simp[intOf];omega
    ·have dk:((j:Int) != (r4:Int))=true:=by simp;omega
     have HQE:=Hd (show(acc++[(j:Int)])++kAx r4 m (j+1)=kAx r4 (ms+1) 0 by have h7:=HQD.out;rw[kAx,iN hjk] at h7;rw[List.append_assoc];exact h7)
     go_wp2_with (at_builtin;refine a0o rfl (.tmp 187) (.tmp 189) 25 3 rfl underlying25 Tryz.infoInt H.out 0 rfl rfl (j:Int) ⟨by omega,by omega⟩ _ rfl ?c1 ?_)
     case c1=>omega
     intro v' w' h';have H8:=Hd h';clear h';go_wp2;go_roundw
     case rel=>exact⟨j+1,_,acc++[(j:Int)],rfl,by go_num,by omega,by rw[List.length_append,List.length_singleton];omega,by rw[HM.out];exact HQE,by rw[List.length_append,List.length_singleton];exact H8⟩
     case measure=>simp[intOf];omega
   ·have hjm:j=ms+1:=by omega
    have dl:decide ((j:Int)<((ms+1:Nat):Int))=false:=by simp;omega
    have dl2:decide (j<ms+1)=false:=by simp;omega
    have dl3:decide ((j:Int)<(ms:Int)+1)=false:=by simp;omega
    have HE:=Hd (show kAx r4 (ms+1) 0=acc by rw[←HQ.out,hjm,Nat.sub_self,kAx,List.append_nil]);have HJM:=Hd hjm;clear hjm hlt;obtain⟨A9,c9,hv,hmc9,_,_⟩:=(H.ownS 0 rfl).form;subst hv;replace H:=Hd (H.litP 3 #[.int .i64 ((r2:Int))] [((r2:Int))] 1 rfl (by first|(simp[a1e];done)|(simp[a1e];omega)));have HX:=Hd (show KS=(ndV 14 [(r2:Int)] O acc 0 0,a30) by rw[←HKS.out,kOp5,iN (by have h8:=HSL.out;have h9:=HN2.out;omega),HSL.out,HR4.out,HA4.out,HR30.out,HA30.out,Int.toNat_natCast,HO.out,HE.out]);obtain⟨rc0,rc1,rc2,rc3,rc4,rc5,rc6⟩:=H.cells7 6 rfl;obtain⟨fr0,fr1,fr2,fr3,fr4,fr5,fr6⟩:=H.f7 6 rfl;have HF:=Hd (H.set7 6 rfl (.int .i64 14) (.slice (some ⟨wr.heap.size,0,none⟩) 1 1) (.slice Ao (ms+1) co) (.slice A9 acc.length c9) (.int .i64 0) (.int .i64 0) (.string ⟨#[]⟩));go_wp2;refine a1g HF 6 rfl results24 rfl rfl ?_;rw[HX.out];exact⟨_,_,_,_,_,_,rfl,_,HK30,Sep.pick HF [0,2,1] rfl (by decide)⟩
def b1q (xs:List Int):Nat→Nat→Nat→List Int→List Int × Nat
 | 0,_,a,p=>(p,a)
 | m+1,j,a,p=>b1q xs m (j+1) (ta xs a (j+1)) (p.take (tv xs a (j+1)).toNat++[(j:Int)]++p.drop (tv xs a (j+1)).toNat)
def kOp4 (xs:List Int) (b q:Nat) (s:List Int):a0l × Nat :=
 (ndV 13 [(q:Int)] [] (b1q xs s.length 0 b []).1 0 0,(b1q xs s.length 0 b []).2)
theorem e2a (q b:Nat)(h5:¬ tv xs a 5=0)(hq:tv xs (ta xs a 5) nl=q)(hs:L[q]?=some s)(hb:ta xs (ta xs (ta xs a 5) nl) 12=b)(hk:tv xs (ta xs (ta xs a 5) nl) 12=4)(hs4:s.length≤4)(H:Sep w0 w l)(hi:l[i]?=some (TB g A n c a))(hI:Ints w0 A n xs)(ha:a≤n)(hL:a6v w0 l i g A n c Al nl L):
  Calls prog 24 #[.pointer (some ⟨g,0,none⟩),.slice Al nl cl] w (a3g w0 l i g A n c (kOp4 xs b q s)):=by
 obtain⟨KS,hKS⟩:∃ q0,kOp4 xs b q s=q0:=⟨_,rfl⟩;rw[hKS];have HKS:=Hd hKS;clear hKS;have HXL:=Hd hI.len;have HI:=Hd hI;have hnle:=hI.le;have hll:=hL.1;have hln:=hL.2.1;have HLL:=Hd hll;have HLK:=Hd hL;have HK:Hid (KT l i (TB g A n c a) l):=Hd ⟨hi,fun _=>rfl⟩;clear hll;have h1:=(((H.allocBox w.heap.size 49 zN rfl).addNil 3).addNil 3).addNil 3
 go_enter func24,ntmps24
 go_upto_region 1 with fail
 generalize w.alloc (.cells zA 49)=W at *;generalize w.heap.size=gr at *;clear H hi hI hL;have H:Hid (Sep w0 W ([oN,oN,oN,.box gr 49 zN]++l)):=Hd h1;clear h1;have hnl:0<nl:=by have h8:L.length=nl:=HLL.out;have:=(lL hs);omega
 have dn:((nl:Int)==0)=false:=by simp;omega
 have HQ0:=Hd hq;have HB0:=Hd hb;have HK0:=Hd hk;have HS0:=Hd hs;have h5n:=Hd h5;clear hq hb hk hs h5
 go_wp2_with fail
 refine(a0x (5) H HK HI ha (by omega) ⟨by omega,by omega⟩).mono ?_;clear H HK;rintro e1 w1 ⟨r1,a1,l1,rfl,HR1,br1,HA1,ba1,HK,H⟩;have d5:((r1:Int)==0)=false:=by have h8:=HR1.out;have h9:=h5n.out;rw[h8] at h9;simpa using h9
 go_wp2_with fail
 refine(a0x ((nl:Int)) H HK HI ba1 (by omega) ⟨by omega,by omega⟩).mono ?_;clear H HK;rintro e2 w2 ⟨r2,a2,l2,rfl,HR2,br2,HA2,ba2,HK,H⟩;obtain rfl:r2=q:=by have h8:=HR2.out;have h9:=HQ0.out;rw[HA1.out,h8] at h9;omega
 obtain⟨la,Bs,ms,cap,hAl,hmc,hst⟩:=HLK.out.2.2 r2 s HS0;subst hAl;have HST:=Hd hst;obtain⟨hlb,hcl,hIs⟩:=hst w2 a2 l2 HK H.rest_;have HSL:=Hd hIs.len;have hmsl:=hIs.le;have hr2:r2<nl:=by omega
 clear hst hIs hlb
 go_wp2_with fail
 clear hcl;refine(a0x (12) H HK HI ba2 (by omega) ⟨by omega,by omega⟩).mono ?_;clear H HK;rintro e3 w3 ⟨r3,a3,l3,rfl,HR3,br3,HA3,ba3,HK,H⟩;obtain rfl:r3=4:=by have h8:=HR3.out;have h9:=HK0.out;rw[HA1.out,HA2.out,h8] at h9;omega
 obtain rfl:a3=b:=by have h8:=HA3.out;have h9:=HB0.out;rw[HA1.out,HA2.out,h8] at h9;exact h9
 clear HR1 HR2 HR3 HQ0 HB0 HK0 h5n d5 dn
 go_wp2_with fail
 replace H:Hid (Sep w0 w3 ([oN,oN,oN,oN,.box gr 49 zN]++l3)):=Hd (H.addNil 3)
 go_loopw [128,11] (fun iv av wr=>∃(j:Nat) (vp:Value) (acc:List Int) (a9:Nat) (l9:List a0e),vp=av∧iv=.int .i64 j∧j≤ms∧a9≤n∧b1q xs (ms-j) j a9 acc=b1q xs ms 0 a3 []∧KT l i (TB g A n c a9) l9∧Sep w0 wr ([.own 3 vp j acc,oN,oN,oN,.box gr 49 zN]++l9)) (fun iv _ _=>ms-(intOf iv).toNat)
 case atStart=>exact⟨0,_,[],a3,_,rfl,rfl,by omega,ba3,rfl,HK,H⟩
 case round =>
  clear H HK;obtain⟨j,vp,acc,a9,l9,rfl,rfl,hj,ba9,hq,hK,hS⟩:=hrel;obtain⟨Ap,cp,hv,hmcp,_,_⟩:=(hS.ownS 0 rfl).form;subst hv;have HAL:Hid (acc.length=j):=Hd (hS.ownS 0 rfl).len;have H:Hid (Sep w0 wr ([.own 3 (.slice Ap j cp) j acc,oN,oN,oN,.box gr 49 zN]++l9)):=Hd hS;have HK:=Hd hK;have HQ:=Hd hq;clear hS hK hq;by_cases hlt:j<ms
  ·obtain⟨m,hm⟩:∃ m,ms-j=m+1:=⟨ms-j-1,by omega⟩;have HM:=Hd (show ms-(j+1)=m by omega);have HQD:=Hd (show b1q xs (m+1) j a9 acc=b1q xs ms 0 a3 [] by rw[←hm];exact HQ);clear hm;have hj4:j≤4:=by have h8:=HSL.out;omega
   go_wp2_with fail
   refine(a0x ((j:Int)+1) H HK HI ba9 (by omega) ⟨by omega,by omega⟩).mono ?_;clear H HK;rintro e21 w21 ⟨r21,a21,l21,rfl,HR21,br21,HA21,ba21,HK,H⟩;have hk:r21≤j:=by omega
   have HQE:=Hd (show b1q xs m (j+1) a21 (acc.take r21++[(j:Int)]++acc.drop r21)=b1q xs ms 0 a3 [] by have h7:=HQD.out;rw[b1q,HR21.out,HA21.out,Int.toNat_natCast] at h7;exact h7);have hsl1:=a7i ((H.ownInts 0 rfl).2.2) hk hmcp;have hsl2:=b0m ((H.ownInts 0 rfl).2.2) hk hmcp;obtain⟨A8,hA8⟩:∃ A8,dropA Ap cp r21=A8:=⟨_,rfl⟩;rw[hA8] at hsl2;have HI8:Hid (∀ w,Ints w Ap j acc→Ints w A8 (j-r21) (acc.drop r21)):=Hd (fun w h=>by have h9:=h.dropA hk hmcp;rw[hA8] at h9;exact h9);clear hA8;have HLN:=Hd (show 0+r21+1+(j-r21)=j+1 by omega)
   go_upto_region 30 with fail
   have H0:=Hd H.drew;refine wp_region_held_drew (S:=(fun _=>True)) (by kernel_rfl) ?_ (fun hq_=>?_)
   ·trivial
   refine zV 1 hq_ ?_;refine zV 2 hq_ ?_;refine zV 3 hq_ ?_;refine zV 5 hq_ ?_;refine zV 8 hq_ ?_;refine zV 9 hq_ ?_;refine zV 10 hq_ ?_;refine rB2 0 6 (fun K hK=>?_) fun K hK=>?_
   ·go_simp
    (try go_wp2_with fail);refine zX hK fun hq_=>?_;refine rB2 4 6 (fun K hK=>?_) fun K hK=>?_
    ·(have Ge:=Hd (H0.empty 3);refine a0k rfl (.tmp 135) (.tmp 138) 25 3 rfl underlying25 Tryz.infoInt Ge.out 0 rfl rfl Ap r21 cp (acc.take r21) rfl ((Ge.ownInts 1 rfl).2.2.take hk) ?_ ?_;(focus omega);intro y1 z1 h5;have G4:Hid (Sep w0 z1 ([.own 3 y1 (0+r21) (acc.take r21),.own 3 (.slice Ap j cp) j acc,oN,oN,oN,.box gr 49 zN]++l21)):=Hd h5;clear h5 Ge)
     refine zX hK fun hq_=>?_;refine e1 6 fun K hK=>?_;go_simp;(try go_wp2_with fail);refine zX hK fun hq_=>?_;refine e1 7 fun K hK=>?_;(refine a0n rfl (.tmp 139) (.tmp 141) 25 3 rfl underlying25 Tryz.infoInt G4.out 0 rfl rfl (j:Int) ⟨by omega,by omega⟩ _ rfl ?_ ?_;(focus omega);intro y2 z2 h5;have G5:Hid (Sep w0 z2 ([.own 3 y2 (0+r21+1) (acc.take r21++[(j:Int)]),.own 3 (.slice Ap j cp) j acc,oN,oN,oN,.box gr 49 zN]++l21)):=Hd h5;clear h5);refine zX hK fun hq_=>?_;refine e1 11 fun K hK=>?_;(refine a0k rfl (.tmp 142) (.tmp 145) 25 3 rfl underlying25 Tryz.infoInt G5.out 0 rfl rfl A8 (j-r21) (cp-r21) (acc.drop r21) rfl (HI8.out _ (G5.ownInts 1 rfl).2.2) ?_ ?_;(focus omega);intro y3 z3 h5;have h6:Sep w0 z3 ([.own 3 y3 (0+r21+1+(j-r21)) (acc.take r21++[(j:Int)]++acc.drop r21),.own 3 (.slice Ap j cp) j acc,oN,oN,oN,.box gr 49 zN]++l21):=h5;have G6:Hid (Sep w0 z3 ([.own 3 y3 (0+r21+1+(j-r21)) (acc.take r21++[(j:Int)]++acc.drop r21),oN,oN,oN,.box gr 49 zN]++l21)):=Hd (Sep.less1 h6);clear h5 h6);refine zX hK fun hq_=>?_;refine zV 12 hq_ ?_;refine dN ?_;go_wp2;go_roundw
     case rel=>exact⟨j+1,_,_,a21,_,rfl,by go_num,by omega,ba21,by rw[HM.out];exact HQE,HK,by rw[←HLN.out];exact G6⟩
     case measure=>simp[intOf];omega
    ·go_simp
     (try go_wp2_with fail);refine zX hK fun hq_=>?_;refine e1 4 fun K hK=>?_;(have Ge:=Hd ((H0.empty 3).lit 3 #[.int .i64 (j:Int)] [(j:Int)] 1 (w21.drew.heap.size+1) (by rw[a1v]) rfl (by simp[a1e];omega));refine a0k rfl (.tmp 135) (.tmp 138) 25 3 rfl underlying25 Tryz.infoInt Ge.out 1 rfl rfl Ap r21 cp (acc.take r21) rfl ((Ge.ownInts 2 rfl).2.2.take hk) ?_ ?_;(focus omega);intro y1 z1 h5;have G4:Hid (Sep w0 z1 ([.own 3 (.slice (some ⟨w21.drew.heap.size+1,0,none⟩) 1 1) 1 [(j:Int)],.own 3 y1 (0+r21) (acc.take r21),.own 3 (.slice Ap j cp) j acc,oN,oN,oN,.box gr 49 zN]++l21)):=Hd h5;clear h5 Ge);refine zX hK fun hq_=>?_;refine e1 7 fun K hK=>?_;(refine a0k rfl (.tmp 139) (.tmp 141) 25 3 rfl underlying25 Tryz.infoInt G4.out 1 rfl rfl _ 1 1 [(j:Int)] rfl ((G4.ownInts 0 rfl).2.2) ?_ ?_;(focus omega);intro y2 z2 h5;have G5:Hid (Sep w0 z2 ([.own 3 (.slice (some ⟨w21.drew.heap.size+1,0,none⟩) 1 1) 1 [(j:Int)],.own 3 y2 (0+r21+1) (acc.take r21++[(j:Int)]),.own 3 (.slice Ap j cp) j acc,oN,oN,oN,.box gr 49 zN]++l21)):=Hd h5;clear h5);refine zX hK fun hq_=>?_;refine e1 11 fun K hK=>?_;(refine a0k rfl (.tmp 142) (.tmp 145) 25 3 rfl underlying25 Tryz.infoInt G5.out 1 rfl rfl A8 (j-r21) (cp-r21) (acc.drop r21) rfl (HI8.out _ (G5.ownInts 2 rfl).2.2) ?_ ?_;(focus omega);intro y3 z3 h5;have h6:Sep w0 z3 ([.own 3 (.slice (some ⟨w21.drew.heap.size+1,0,none⟩) 1 1) 1 [(j:Int)],.own 3 y3 (0+r21+1+(j-r21)) (acc.take r21++[(j:Int)]++acc.drop r21),.own 3 (.slice Ap j cp) j acc,oN,oN,oN,.box gr 49 zN]++l21):=h5;have G6:Hid (Sep w0 z3 ([.own 3 y3 (0+r21+1+(j-r21)) (acc.take r21++[(j:Int)]++acc.drop r21),oN,oN,oN,.box gr 49 zN]++l21)):=Hd (Sep.less1 (Sep.tail_ h6));clear h5 h6);refine zX hK fun hq_=>?_;refine zV 12 hq_ ?_;refine dN ?_;go_wp2;go_roundw
     case rel=>exact⟨j+1,_,_,a21,_,rfl,by go_num,by omega,ba21,by rw[HM.out];exact HQE,HK,by rw[←HLN.out];exact G6⟩
     case measure=>simp[intOf];omega
   ·go_simp
    (try go_wp2_with fail);refine zX hK fun hq_=>?_;refine e1 0 fun K hK=>?_;go_simp;(try go_wp2_with fail);refine zX hK fun hq_=>?_;refine e1 4 fun K hK=>?_;(have Ge:=Hd ((H0.lit 3 #[.int .i64 (j:Int)] [(j:Int)] 1 w21.drew.heap.size rfl rfl (by simp[a1e];omega)).emptyAt9 3 (w21.drew.heap.size+1) (by rw[a1v]));refine a0k rfl (.tmp 135) (.tmp 138) 25 3 rfl underlying25 Tryz.infoInt Ge.out 0 rfl rfl Ap r21 cp (acc.take r21) rfl ((Ge.ownInts 2 rfl).2.2.take hk) ?_ ?_;(focus omega);intro y1 z1 h5;have G4:Hid (Sep w0 z1 ([.own 3 y1 (0+r21) (acc.take r21),.own 3 (.slice (some ⟨w21.drew.heap.size,0,none⟩) 1 1) 1 [(j:Int)],.own 3 (.slice Ap j cp) j acc,oN,oN,oN,.box gr 49 zN]++l21)):=Hd h5;clear h5 Ge);refine zX hK fun hq_=>?_;refine e1 7 fun K hK=>?_;(refine a0k rfl (.tmp 139) (.tmp 141) 25 3 rfl underlying25 Tryz.infoInt G4.out 0 rfl rfl _ 1 1 [(j:Int)] rfl ((G4.ownInts 1 rfl).2.2) ?_ ?_;(focus omega);intro y2 z2 h5;have G5:Hid (Sep w0 z2 ([.own 3 y2 (0+r21+1) (acc.take r21++[(j:Int)]),.own 3 (.slice (some ⟨w21.drew.heap.size,0,none⟩) 1 1) 1 [(j:Int)],.own 3 (.slice Ap j cp) j acc,oN,oN,oN,.box gr 49 zN]++l21)):=Hd h5;clear h5);refine zX hK fun hq_=>?_;refine e1 11 fun K hK=>?_;(refine a0k rfl (.tmp 142) (.tmp 145) 25 3 rfl underlying25 Tryz.infoInt G5.out 0 rfl rfl A8 (j-r21) (cp-r21) (acc.drop r21) rfl (HI8.out _ (G5.ownInts 2 rfl).2.2) ?_ ?_;(focus omega);intro y3 z3 h5;have h6:Sep w0 z3 ([.own 3 y3 (0+r21+1+(j-r21)) (acc.take r21++[(j:Int)]++acc.drop r21),.own 3 (.slice (some ⟨w21.drew.heap.size,0,none⟩) 1 1) 1 [(j:Int)],.own 3 (.slice Ap j cp) j acc,oN,oN,oN,.box gr 49 zN]++l21):=h5;have G6:Hid (Sep w0 z3 ([.own 3 y3 (0+r21+1+(j-r21)) (acc.take r21++[(j:Int)]++acc.drop r21),oN,oN,oN,.box gr 49 zN]++l21)):=Hd (Sep.less1 (Sep.less1 h6));clear h5 h6);refine zX hK fun hq_=>?_;refine zV 12 hq_ ?_;refine dN ?_;go_wp2;go_roundw
    case rel=>exact⟨j+1,_,_,a21,_,rfl,by go_num,by omega,ba21,by rw[HM.out];exact HQE,HK,by rw[←HLN.out];exact G6⟩
    case measure=>simp[intOf];omega
  ·have hjm:j=ms:=by omega
   subst hjm;have HE:=Hd (show b1q xs j 0 a3 []=(acc,a9) by rw[←HQ.out,Nat.sub_self,b1q]);replace H:=Hd (H.litP 3 #[.int .i64 ((r2:Int))] [((r2:Int))] 1 rfl (by first|(simp[a1e];done)|(simp[a1e];omega)));have HX:=Hd (show KS=(ndV 13 [(r2:Int)] [] acc 0 0,a9) by rw[←HKS.out,kOp4,HSL.out,HE.out]);obtain⟨rc0,rc1,rc2,rc3,rc4,rc5,rc6⟩:=H.cells7 5 rfl;obtain⟨fr0,fr1,fr2,fr3,fr4,fr5,fr6⟩:=H.f7 5 rfl;have HF:=Hd (H.set7 5 rfl (.int .i64 13) (.slice (some ⟨wr.heap.size,0,none⟩) 1 1) (.slice none 0 0) (.slice Ap j cp) (.int .i64 0) (.int .i64 0) (.string ⟨#[]⟩));go_wp2;refine a1g HF 5 rfl results24 rfl rfl ?_;rw[HX.out];exact⟨_,_,_,_,_,_,rfl,_,HK,Sep.pick HF [0,2,1] rfl (by decide)⟩
end Go.Proofs.YtdcmanhgekjhgaaGreatDoor
