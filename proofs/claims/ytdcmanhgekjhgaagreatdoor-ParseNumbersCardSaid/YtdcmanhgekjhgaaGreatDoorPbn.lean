import Derived.Test.YtdcmanhgekjhgaaGreatDoorPbm
set_option maxRecDepth 100000
set_option maxHeartbeats 12800000
namespace Go.Proofs.YtdcmanhgekjhgaaGreatDoor
open Go.RowKit Go.Proofs.Tryz
variable {A Al:Option Addr} {L:List (List Int)} {a c cl g i n nl:Nat} {l:List a0e} {s xs:List Int} {w w0:World}
theorem a9w (s:List Int):∀(L:List (List Int)) (k:Nat),(a2w k L s).length≤L.length
 | [],_=>by simp[a2w]
 | x::L,k=>by
  have:=a9w s L (k+1);rw[a2w]
  split <;> simp only[List.length_cons] <;> omega
theorem a9x {s:List Int}:∀ {L:List (List Int)} {k q:Nat},L[q]?=some s→0<(a2w k L s).length
 | [],_,_,h=>by simp at h
 | x::L,k,q,h=>by
  rw[a2w];by_cases e:x=s
  ·rw[iP e,List.length_cons];omega
  ·rw[iN e]
   cases q with
   | zero=>exact absurd (by simpa using h) e
   | succ q=>exact a9x (by simpa using h)
def kOp0 (xs:List Int) (b q:Nat):a0l × Nat:=(ndV (4+tv xs b 2) [(q:Int)] [] [] 0 0,ta xs b 2)
def kOp1 (xs:List Int) (b q:Nat) (s:List Int) (L:List (List Int)):a0l × Nat :=
 (ndV (6+tv xs b 6) [(q:Int),(a2w 0 L s).getD (tv xs (ta xs b 6) (a2w 0 L s).length).toNat 0] [] [] 0 0,ta xs (ta xs b 6) (a2w 0 L s).length)
def c5n (xs:List Int) (b q:Nat) (s:List Int):a0l × Nat :=
 if s.length=0 then(ndV 4 [(q:Int)] [] [] 0 0,b)
 else(ndV 20 [(q:Int)] [] [tv xs b s.length,1+tv xs (ta xs b s.length) 3,1+tv xs (ta xs (ta xs b s.length) 3) 2] 0 (1+tv xs (ta xs (ta xs (ta xs b s.length) 3) 2) 4),ta xs (ta xs (ta xs (ta xs b s.length) 3) 2) 4)
theorem e1w (q b:Nat)(h5:¬ tv xs a 5=0)(hq:tv xs (ta xs a 5) nl=q)(hs:L[q]?=some s)(hb:ta xs (ta xs (ta xs a 5) nl) 12=b)(hk:tv xs (ta xs (ta xs a 5) nl) 12=0)(H:Sep w0 w l)(hi:l[i]?=some (TB g A n c a))(hI:Ints w0 A n xs)(ha:a≤n)(hL:a6v w0 l i g A n c Al nl L):
  Calls prog 24 #[.pointer (some ⟨g,0,none⟩),.slice Al nl cl] w (a3g w0 l i g A n c (kOp0 xs b q)):=by
 obtain⟨KS,hKS⟩:∃ q0,kOp0 xs b q=q0:=⟨_,rfl⟩;rw[hKS];have HKS:=Hd hKS;clear hKS;have HXL:=Hd hI.len;have HI:=Hd hI;have hnle:=hI.le;have hll:=hL.1;have hln:=hL.2.1;have HLL:=Hd hll;have HLK:=Hd hL;have HK:Hid (KT l i (TB g A n c a) l):=Hd ⟨hi,fun _=>rfl⟩;clear hll;have h1:=(((H.allocBox w.heap.size 49 zN rfl).addNil 3).addNil 3).addNil 3
 go_enter func24,ntmps24
 go_upto_region 1 with fail
 generalize w.alloc (.cells zA 49)=W at *;generalize w.heap.size=gr at *;clear H hi hI hL;have H:Hid (Sep w0 W ([oN,oN,oN,.box gr 49 zN]++l)):=Hd h1;clear h1;have hnl:0<nl:=by have h8:L.length=nl:=HLL.out;have:=(lL hs);omega
 have dn:((nl:Int)==0)=false:=by simp;omega
 have HQ0:=Hd hq;have HB0:=Hd hb;have HK0:=Hd hk;have HS0:=Hd hs;have h5n:=Hd h5;clear hq hb hk hs h5
 go_wp2_with fail
 refine(a0x (5) H HK HI ha (by omega) ⟨by omega,by omega⟩).mono ?_;clear H HK;rintro e1 w1 ⟨r1,a1,l1,rfl,HR1,br1,HA1,ba1,HK,H⟩;have d5:((r1:Int)==0)=false:=by have h8:=HR1.out;have h9:=h5n.out;rw[h8] at h9;simpa using h9
 go_wp2_with fail
 refine(a0x ((nl:Int)) H HK HI ba1 (by omega) ⟨by omega,by omega⟩).mono ?_;clear H HK;rintro e2 w2 ⟨r2,a2,l2,rfl,HR2,br2,HA2,ba2,HK,H⟩;obtain rfl:r2=q:=by have h8:=HR2.out;have h9:=HQ0.out;rw[HA1.out,h8] at h9;omega
 obtain⟨la,Bs,ms,cap,hAl,hmc,hst⟩:=HLK.out.2.2 r2 s HS0;subst hAl;have HST:=Hd hst;obtain⟨hlb,hcl,hIs⟩:=hst w2 a2 l2 HK H.rest_;have HSL:=Hd hIs.len;have hmsl:=hIs.le;have hr2:r2<nl:=by omega
 clear hst hIs hlb
 go_wp2_with fail
 clear hcl;refine(a0x (12) H HK HI ba2 (by omega) ⟨by omega,by omega⟩).mono ?_;clear H HK;rintro e3 w3 ⟨r3,a3,l3,rfl,HR3,br3,HA3,ba3,HK,H⟩;obtain rfl:r3=0:=by have h8:=HR3.out;have h9:=HK0.out;rw[HA1.out,HA2.out,h8] at h9;omega
 obtain rfl:a3=b:=by have h8:=HA3.out;have h9:=HB0.out;rw[HA1.out,HA2.out,h8] at h9;exact h9
 clear HR1 HR2 HR3 HQ0 HB0 HK0 h5n d5 dn
 go_wp2_with fail
 refine(a0x (2) H HK HI ba3 (by omega) ⟨by omega,by omega⟩).mono ?_;clear H HK;rintro e4 w4 ⟨r4,a4,l4,rfl,HR4,br4,HA4,ba4,HK,H⟩;replace H:=Hd (H.litP 3 #[.int .i64 ((r2:Int))] [((r2:Int))] 1 rfl (by first|(simp[a1e];done)|(simp[a1e];omega)));have HX:=Hd (show KS=(ndV (4+(r4:Int)) [(r2:Int)] [] [] 0 0,a4) by rw[←HKS.out,kOp0,HR4.out,HA4.out]);obtain⟨rc0,rc1,rc2,rc3,rc4,rc5,rc6⟩:=H.cells7 4 rfl;obtain⟨fr0,fr1,fr2,fr3,fr4,fr5,fr6⟩:=H.f7 4 rfl;have HF:=Hd (H.set7 4 rfl (.int .i64 (4+(r4:Int))) (.slice (some ⟨w4.heap.size,0,none⟩) 1 1) (.slice none 0 0) (.slice none 0 0) (.int .i64 0) (.int .i64 0) (.string ⟨#[]⟩));go_wp2;refine a1g HF 4 rfl results24 rfl rfl ?_;rw[HX.out];exact⟨_,_,_,_,_,_,rfl,_,HK,Sep.pick HF [0,1,2] rfl (by decide)⟩
theorem e1x (q b:Nat)(h5:¬ tv xs a 5=0)(hq:tv xs (ta xs a 5) nl=q)(hs:L[q]?=some s)(hb:ta xs (ta xs (ta xs a 5) nl) 12=b)(hk:tv xs (ta xs (ta xs a 5) nl) 12=1)(H:Sep w0 w l)(hi:l[i]?=some (TB g A n c a))(hI:Ints w0 A n xs)(ha:a≤n)(hL:a6v w0 l i g A n c Al nl L):
  Calls prog 24 #[.pointer (some ⟨g,0,none⟩),.slice Al nl cl] w (a3g w0 l i g A n c (kOp1 xs b q s L)):=by
 obtain⟨KS,hKS⟩:∃ q0,kOp1 xs b q s L=q0:=⟨_,rfl⟩;rw[hKS];have HKS:=Hd hKS;clear hKS;have HXL:=Hd hI.len;have HI:=Hd hI;have hnle:=hI.le;have hll:=hL.1;have hln:=hL.2.1;have HLL:=Hd hll;have HLK:=Hd hL;have HK:Hid (KT l i (TB g A n c a) l):=Hd ⟨hi,fun _=>rfl⟩;clear hll;have h1:=(((H.allocBox w.heap.size 49 zN rfl).addNil 3).addNil 3).addNil 3
 go_enter func24,ntmps24
 go_upto_region 1 with fail
 generalize w.alloc (.cells zA 49)=W at *;generalize w.heap.size=gr at *;clear H hi hI hL;have H:Hid (Sep w0 W ([oN,oN,oN,.box gr 49 zN]++l)):=Hd h1;clear h1;have hnl:0<nl:=by have h8:L.length=nl:=HLL.out;have:=(lL hs);omega
 have dn:((nl:Int)==0)=false:=by simp;omega
 have HQ0:=Hd hq;have HB0:=Hd hb;have HK0:=Hd hk;have HS0:=Hd hs;have h5n:=Hd h5;clear hq hb hk hs h5
 go_wp2_with fail
 refine(a0x (5) H HK HI ha (by omega) ⟨by omega,by omega⟩).mono ?_;clear H HK;rintro e1 w1 ⟨r1,a1,l1,rfl,HR1,br1,HA1,ba1,HK,H⟩;have d5:((r1:Int)==0)=false:=by have h8:=HR1.out;have h9:=h5n.out;rw[h8] at h9;simpa using h9
 go_wp2_with fail
 refine(a0x ((nl:Int)) H HK HI ba1 (by omega) ⟨by omega,by omega⟩).mono ?_;clear H HK;rintro e2 w2 ⟨r2,a2,l2,rfl,HR2,br2,HA2,ba2,HK,H⟩;obtain rfl:r2=q:=by have h8:=HR2.out;have h9:=HQ0.out;rw[HA1.out,h8] at h9;omega
 obtain⟨la,Bs,ms,cap,hAl,hmc,hst⟩:=HLK.out.2.2 r2 s HS0;subst hAl;have HST:=Hd hst;obtain⟨hlb,hcl,hIs⟩:=hst w2 a2 l2 HK H.rest_;have HSL:=Hd hIs.len;have hmsl:=hIs.le;have hr2:r2<nl:=by omega
 clear hst hIs hlb
 go_wp2_with fail
 clear hcl;refine(a0x (12) H HK HI ba2 (by omega) ⟨by omega,by omega⟩).mono ?_;clear H HK;rintro e3 w3 ⟨r3,a3,l3,rfl,HR3,br3,HA3,ba3,HK,H⟩;obtain rfl:r3=1:=by have h8:=HR3.out;have h9:=HK0.out;rw[HA1.out,HA2.out,h8] at h9;omega
 obtain rfl:a3=b:=by have h8:=HA3.out;have h9:=HB0.out;rw[HA1.out,HA2.out,h8] at h9;exact h9
 clear HR1 HR2 HR3 HQ0 HB0 HK0 h5n d5 dn
 go_wp2_with fail
 refine(d1u (c:=cap) (HLK.lils HK H.rest_) (HST _ _ _ HK H.rest_).2.2).mono ?_;rintro e9 w9 ⟨⟨v9,m9,rfl,hO⟩,hb9⟩;have HPOS:=Hd (a9x (k:=0) HS0);have HML:=Hd hO.len;have hm9:0<m9:=by have h8:=HML.out;have h9:=HPOS.out;omega
 obtain⟨gl,cl9,hv,_⟩:=hO.own hm9;subst hv;have hm900:m9≤90000:=by have h8:=HML.out;have h9:=a9w s L 0;have h10:L.length=nl:=HLL.out;omega
 obtain⟨LS,hLS⟩:∃ q,a2w 0 L s=q:=⟨_,rfl⟩;rw[hLS] at hO;have HLS:=Hd hLS;have h9:=H.addOwn hb9 hO;replace H:Hid (Sep w0 w9 ([.own 3 (.slice (some ⟨gl,0,none⟩) m9 cl9) m9 LS,oN,oN,oN,.box gr 49 zN]++l3)):=Hd h9;have HMS:Hid (LS.length=m9):=Hd (by rw[←hLS];exact HML);clear hO hb9 h9 hLS HML HPOS
 go_wp2_with fail
 refine(a0x (6) H HK HI ba3 (by omega) ⟨by omega,by omega⟩).mono ?_;clear H HK;rintro e4 w4 ⟨r4,a4,l4,rfl,HR4,br4,HA4,ba4,HK,H⟩
 go_wp2_with fail
 refine(a0x ((m9:Int)) H HK HI ba4 (by omega) ⟨by omega,by omega⟩).mono ?_;clear H HK;rintro e5 w5 ⟨r5,a5,l5,rfl,HR5,br5,HA5,ba5,HK,H⟩;obtain⟨y,hy⟩:∃ y,LS[r5]?=some y:=gE (by have h8:=HMS.out;omega);have hcy:=(H.own 0 rfl).cell hy;have hry:r5<m9:=by omega
 have hfy:=(H.own 0 rfl).2.1 y (mG hy);obtain⟨fy1,fy2⟩:=hfy;replace H:=Hd (H.litP 3 #[.int .i64 ((r2:Int)),.int .i64 (y)] [((r2:Int)),(y)] 2 rfl (by first|(simp[a1e];done)|(simp[a1e];omega)));have HX:=Hd (show KS=(ndV (6+(r4:Int)) [(r2:Int),y] [] [] 0 0,a5) by rw[←HKS.out,kOp1,HLS.out,HR4.out,HA4.out,HMS.out,HR5.out,HA5.out,Int.toNat_natCast,gD,hy];rfl);clear hy;obtain⟨rc0,rc1,rc2,rc3,rc4,rc5,rc6⟩:=H.cells7 5 rfl;obtain⟨fr0,fr1,fr2,fr3,fr4,fr5,fr6⟩:=H.f7 5 rfl;have HF:=Hd (H.set7 5 rfl (.int .i64 (6+(r4:Int))) (.slice (some ⟨w5.heap.size,0,none⟩) 2 2) (.slice none 0 0) (.slice none 0 0) (.int .i64 0) (.int .i64 0) (.string ⟨#[]⟩));go_wp2;refine a1g HF 5 rfl results24 rfl rfl ?_;rw[HX.out];exact⟨_,_,_,_,_,_,rfl,_,HK,Sep.pick HF [0,2,3] rfl (by decide)⟩
theorem e1y (q b:Nat)(h5:¬ tv xs a 5=0)(hq:tv xs (ta xs a 5) nl=q)(hs:L[q]?=some s)(hb:ta xs (ta xs (ta xs a 5) nl) 12=b)(hk:tv xs (ta xs (ta xs a 5) nl) 12=2)(H:Sep w0 w l)(hi:l[i]?=some (TB g A n c a))(hI:Ints w0 A n xs)(ha:a≤n)(hL:a6v w0 l i g A n c Al nl L):
  Calls prog 24 #[.pointer (some ⟨g,0,none⟩),.slice Al nl cl] w (a3g w0 l i g A n c (kOp1 xs b q s L)):=by
 obtain⟨KS,hKS⟩:∃ q0,kOp1 xs b q s L=q0:=⟨_,rfl⟩;rw[hKS];have HKS:=Hd hKS;clear hKS;have HXL:=Hd hI.len;have HI:=Hd hI;have hnle:=hI.le;have hll:=hL.1;have hln:=hL.2.1;have HLL:=Hd hll;have HLK:=Hd hL;have HK:Hid (KT l i (TB g A n c a) l):=Hd ⟨hi,fun _=>rfl⟩;clear hll;have h1:=(((H.allocBox w.heap.size 49 zN rfl).addNil 3).addNil 3).addNil 3
 go_enter func24,ntmps24
 go_upto_region 1 with fail
 generalize w.alloc (.cells zA 49)=W at *;generalize w.heap.size=gr at *;clear H hi hI hL;have H:Hid (Sep w0 W ([oN,oN,oN,.box gr 49 zN]++l)):=Hd h1;clear h1;have hnl:0<nl:=by have h8:L.length=nl:=HLL.out;have:=(lL hs);omega
 have dn:((nl:Int)==0)=false:=by simp;omega
 have HQ0:=Hd hq;have HB0:=Hd hb;have HK0:=Hd hk;have HS0:=Hd hs;have h5n:=Hd h5;clear hq hb hk hs h5
 go_wp2_with fail
 refine(a0x (5) H HK HI ha (by omega) ⟨by omega,by omega⟩).mono ?_;clear H HK;rintro e1 w1 ⟨r1,a1,l1,rfl,HR1,br1,HA1,ba1,HK,H⟩;have d5:((r1:Int)==0)=false:=by have h8:=HR1.out;have h9:=h5n.out;rw[h8] at h9;simpa using h9
 go_wp2_with fail
 refine(a0x ((nl:Int)) H HK HI ba1 (by omega) ⟨by omega,by omega⟩).mono ?_;clear H HK;rintro e2 w2 ⟨r2,a2,l2,rfl,HR2,br2,HA2,ba2,HK,H⟩;obtain rfl:r2=q:=by have h8:=HR2.out;have h9:=HQ0.out;rw[HA1.out,h8] at h9;omega
 obtain⟨la,Bs,ms,cap,hAl,hmc,hst⟩:=HLK.out.2.2 r2 s HS0;subst hAl;have HST:=Hd hst;obtain⟨hlb,hcl,hIs⟩:=hst w2 a2 l2 HK H.rest_;have HSL:=Hd hIs.len;have hmsl:=hIs.le;have hr2:r2<nl:=by omega
 clear hst hIs hlb
 go_wp2_with fail
 clear hcl;refine(a0x (12) H HK HI ba2 (by omega) ⟨by omega,by omega⟩).mono ?_;clear H HK;rintro e3 w3 ⟨r3,a3,l3,rfl,HR3,br3,HA3,ba3,HK,H⟩;obtain rfl:r3=2:=by have h8:=HR3.out;have h9:=HK0.out;rw[HA1.out,HA2.out,h8] at h9;omega
 obtain rfl:a3=b:=by have h8:=HA3.out;have h9:=HB0.out;rw[HA1.out,HA2.out,h8] at h9;exact h9
 clear HR1 HR2 HR3 HQ0 HB0 HK0 h5n d5 dn
 go_wp2_with fail
 refine(d1u (c:=cap) (HLK.lils HK H.rest_) (HST _ _ _ HK H.rest_).2.2).mono ?_;rintro e9 w9 ⟨⟨v9,m9,rfl,hO⟩,hb9⟩;have HPOS:=Hd (a9x (k:=0) HS0);have HML:=Hd hO.len;have hm9:0<m9:=by have h8:=HML.out;have h9:=HPOS.out;omega
 obtain⟨gl,cl9,hv,_⟩:=hO.own hm9;subst hv;have hm900:m9≤90000:=by have h8:=HML.out;have h9:=a9w s L 0;have h10:L.length=nl:=HLL.out;omega
 obtain⟨LS,hLS⟩:∃ q,a2w 0 L s=q:=⟨_,rfl⟩;rw[hLS] at hO;have HLS:=Hd hLS;have h9:=H.addOwn hb9 hO;replace H:Hid (Sep w0 w9 ([.own 3 (.slice (some ⟨gl,0,none⟩) m9 cl9) m9 LS,oN,oN,oN,.box gr 49 zN]++l3)):=Hd h9;have HMS:Hid (LS.length=m9):=Hd (by rw[←hLS];exact HML);clear hO hb9 h9 hLS HML HPOS
 go_wp2_with fail
 refine(a0x (6) H HK HI ba3 (by omega) ⟨by omega,by omega⟩).mono ?_;clear H HK;rintro e4 w4 ⟨r4,a4,l4,rfl,HR4,br4,HA4,ba4,HK,H⟩
 go_wp2_with fail
 refine(a0x ((m9:Int)) H HK HI ba4 (by omega) ⟨by omega,by omega⟩).mono ?_;clear H HK;rintro e5 w5 ⟨r5,a5,l5,rfl,HR5,br5,HA5,ba5,HK,H⟩;obtain⟨y,hy⟩:∃ y,LS[r5]?=some y:=gE (by have h8:=HMS.out;omega);have hcy:=(H.own 0 rfl).cell hy;have hry:r5<m9:=by omega
 have hfy:=(H.own 0 rfl).2.1 y (mG hy);obtain⟨fy1,fy2⟩:=hfy;replace H:=Hd (H.litP 3 #[.int .i64 ((r2:Int)),.int .i64 (y)] [((r2:Int)),(y)] 2 rfl (by first|(simp[a1e];done)|(simp[a1e];omega)));have HX:=Hd (show KS=(ndV (6+(r4:Int)) [(r2:Int),y] [] [] 0 0,a5) by rw[←HKS.out,kOp1,HLS.out,HR4.out,HA4.out,HMS.out,HR5.out,HA5.out,Int.toNat_natCast,gD,hy];rfl);clear hy;obtain⟨rc0,rc1,rc2,rc3,rc4,rc5,rc6⟩:=H.cells7 5 rfl;obtain⟨fr0,fr1,fr2,fr3,fr4,fr5,fr6⟩:=H.f7 5 rfl;have HF:=Hd (H.set7 5 rfl (.int .i64 (6+(r4:Int))) (.slice (some ⟨w5.heap.size,0,none⟩) 2 2) (.slice none 0 0) (.slice none 0 0) (.int .i64 0) (.int .i64 0) (.string ⟨#[]⟩));go_wp2;refine a1g HF 5 rfl results24 rfl rfl ?_;rw[HX.out];exact⟨_,_,_,_,_,_,rfl,_,HK,Sep.pick HF [0,2,3] rfl (by decide)⟩
theorem d7j (q b:Nat)(h5:¬ tv xs a 5=0)(hq:tv xs (ta xs a 5) nl=q)(hs:L[q]?=some s)(hb:ta xs (ta xs (ta xs a 5) nl) 12=b)(hk:tv xs (ta xs (ta xs a 5) nl) 12=11)(H:Sep w0 w l)(hi:l[i]?=some (TB g A n c a))(hI:Ints w0 A n xs)(ha:a≤n)(hL:a6v w0 l i g A n c Al nl L):
  Calls prog 24 #[.pointer (some ⟨g,0,none⟩),.slice Al nl cl] w (a3g w0 l i g A n c (c5n xs b q s)):=by
 obtain⟨KS,hKS⟩:∃ q0,c5n xs b q s=q0:=⟨_,rfl⟩;rw[hKS];have HKS:=Hd hKS;clear hKS;have HXL:=Hd hI.len;have HI:=Hd hI;have hnle:=hI.le;have hll:=hL.1;have hln:=hL.2.1;have HLL:=Hd hll;have HLK:=Hd hL;have HK:Hid (KT l i (TB g A n c a) l):=Hd ⟨hi,fun _=>rfl⟩;clear hll;have h1:=(((H.allocBox w.heap.size 49 zN rfl).addNil 3).addNil 3).addNil 3
 go_enter func24,ntmps24
 go_upto_region 1 with fail
 generalize w.alloc (.cells zA 49)=W at *;generalize w.heap.size=gr at *;clear H hi hI hL;have H:Hid (Sep w0 W ([oN,oN,oN,.box gr 49 zN]++l)):=Hd h1;clear h1;have hnl:0<nl:=by have h8:L.length=nl:=HLL.out;have:=(lL hs);omega
 have dn:((nl:Int)==0)=false:=by simp;omega
 have HQ0:=Hd hq;have HB0:=Hd hb;have HK0:=Hd hk;have HS0:=Hd hs;have h5n:=Hd h5;clear hq hb hk hs h5
 go_wp2_with fail
 refine(a0x (5) H HK HI ha (by omega) ⟨by omega,by omega⟩).mono ?_;clear H HK;rintro e1 w1 ⟨r1,a1,l1,rfl,HR1,br1,HA1,ba1,HK,H⟩;have d5:((r1:Int)==0)=false:=by have h8:=HR1.out;have h9:=h5n.out;rw[h8] at h9;simpa using h9
 go_wp2_with fail
 refine(a0x ((nl:Int)) H HK HI ba1 (by omega) ⟨by omega,by omega⟩).mono ?_;clear H HK;rintro e2 w2 ⟨r2,a2,l2,rfl,HR2,br2,HA2,ba2,HK,H⟩;obtain rfl:r2=q:=by have h8:=HR2.out;have h9:=HQ0.out;rw[HA1.out,h8] at h9;omega
 obtain⟨la,Bs,ms,cap,hAl,hmc,hst⟩:=HLK.out.2.2 r2 s HS0;subst hAl;have HST:=Hd hst;obtain⟨hlb,hcl,hIs⟩:=hst w2 a2 l2 HK H.rest_;have HSL:=Hd hIs.len;have hmsl:=hIs.le;have hr2:r2<nl:=by omega
 clear hst hIs hlb
 go_wp2_with fail
 clear hcl;refine(a0x (12) H HK HI ba2 (by omega) ⟨by omega,by omega⟩).mono ?_;clear H HK;rintro e3 w3 ⟨r3,a3,l3,rfl,HR3,br3,HA3,ba3,HK,H⟩;obtain rfl:r3=11:=by have h8:=HR3.out;have h9:=HK0.out;rw[HA1.out,HA2.out,h8] at h9;omega
 obtain rfl:a3=b:=by have h8:=HA3.out;have h9:=HB0.out;rw[HA1.out,HA2.out,h8] at h9;exact h9
 clear HR1 HR2 HR3 HQ0 HB0 HK0 h5n d5 dn;by_cases h0:ms=0
 ·subst h0;replace H:=Hd (H.litP 3 #[.int .i64 ((r2:Int))] [((r2:Int))] 1 rfl (by first|(simp[a1e];done)|(simp[a1e];omega)));have HX:=Hd (show KS=(ndV 4 [(r2:Int)] [] [] 0 0,a3) by rw[←HKS.out,c5n,iP HSL.out]);obtain⟨rc0,rc1,rc2,rc3,rc4,rc5,rc6⟩:=H.cells7 4 rfl;obtain⟨fr0,fr1,fr2,fr3,fr4,fr5,fr6⟩:=H.f7 4 rfl;have HF:=Hd (H.set7 4 rfl (.int .i64 4) (.slice (some ⟨w3.heap.size,0,none⟩) 1 1) (.slice none 0 0) (.slice none 0 0) (.int .i64 0) (.int .i64 0) (.string ⟨#[]⟩));go_wp2;refine a1g HF 4 rfl results24 rfl rfl ?_;rw[HX.out];exact⟨_,_,_,_,_,_,rfl,_,HK,Sep.pick HF [0,1,2] rfl (by decide)⟩
 ·have d0:((ms:Int)==0)=false:=by simp;omega
  replace H:=Hd (H.litP 3 #[.int .i64 ((r2:Int))] [((r2:Int))] 1 rfl (by first|(simp[a1e];done)|(simp[a1e];omega)))
  go_wp2_with fail
  refine(a0x ((ms:Int)) H HK HI ba3 (by omega) ⟨by omega,by omega⟩).mono ?_;clear H HK;rintro e4 w4 ⟨r4,a4,l4,rfl,HR4,br4,HA4,ba4,HK,H⟩
  go_wp2_with fail
  refine(a0x (3) H HK HI ba4 (by omega) ⟨by omega,by omega⟩).mono ?_;clear H HK;rintro e5 w5 ⟨r5,a5,l5,rfl,HR5,br5,HA5,ba5,HK,H⟩
  go_wp2_with fail
  refine(a0x (2) H HK HI ba5 (by omega) ⟨by omega,by omega⟩).mono ?_;clear H HK;rintro e6 w6 ⟨r6,a6,l6,rfl,HR6,br6,HA6,ba6,HK,H⟩;replace H:=Hd (H.litP 3 #[.int .i64 ((r4:Int)),.int .i64 (1+(r5:Int)),.int .i64 (1+(r6:Int))] [((r4:Int)),(1+(r5:Int)),(1+(r6:Int))] 3 rfl (by first|(simp[a1e];done)|(simp[a1e];omega)))
  go_wp2_with fail
  refine(a0x (4) H HK HI ba6 (by omega) ⟨by omega,by omega⟩).mono ?_;clear H HK;rintro e7 w7 ⟨r7,a7,l7,rfl,HR7,br7,HA7,ba7,HK,H⟩;have HX:=Hd (show KS=(ndV 20 [(r2:Int)] [] [(r4:Int),1+(r5:Int),1+(r6:Int)] 0 (1+(r7:Int)),a7) by rw[←HKS.out,c5n,iN (by have h8:=HSL.out;omega),HSL.out,HR4.out,HA4.out,HR5.out,HA5.out,HR6.out,HA6.out,HR7.out,HA7.out]);obtain⟨rc0,rc1,rc2,rc3,rc4,rc5,rc6⟩:=H.cells7 5 rfl;obtain⟨fr0,fr1,fr2,fr3,fr4,fr5,fr6⟩:=H.f7 5 rfl;have HF:=Hd (H.set7 5 rfl (.int .i64 20) (.slice (some ⟨w3.heap.size,0,none⟩) 1 1) (.slice none 0 0) (.slice (some ⟨w6.heap.size,0,none⟩) 3 3) (.int .i64 0) (.int .i64 (1+(r7:Int))) (.string ⟨#[]⟩));go_wp2;refine a1g HF 5 rfl results24 rfl rfl ?_;rw[HX.out];exact⟨_,_,_,_,_,_,rfl,_,HK,Sep.pick HF [1,2,0] rfl (by decide)⟩
def a3a (xs:List Int):Nat→Nat→Nat→List Int × Nat
 | 0,_,a=>([],a)
 | m+1,j,a=>if tv xs a 2=0 then((j:Int)::(a3a xs m (j+1) (ta xs a 2)).1,(a3a xs m (j+1) (ta xs a 2)).2) else a3a xs m (j+1) (ta xs a 2)
def kOp9 (xs:List Int) (b q:Nat) (s:List Int):a0l × Nat :=
 (ndV 18 [(q:Int)] [] (a3a xs s.length 0 b).1 0 (1+tv xs (a3a xs s.length 0 b).2 4),ta xs (a3a xs s.length 0 b).2 4)
def a5r (xs:List Int):Nat→Nat→(List Int × List Int) × Nat
 | 0,a=>(([],[]),a)
 | m+1,a=>((tv xs a 3::(a5r xs m (ta xs (ta xs a 3) 3)).1.1,tv xs (ta xs a 3) 3::(a5r xs m (ta xs (ta xs a 3) 3)).1.2),(a5r xs m (ta xs (ta xs a 3) 3)).2)
def kOp7 (xs:List Int) (b q:Nat) (s:List Int):a0l × Nat :=
 (ndV 16 [(q:Int)] [] ((a5r xs s.length b).1.1++(a5r xs s.length b).1.2) (kNum xs (a5r xs s.length b).2).1 0,(kNum xs (a5r xs s.length b).2).2)
def a5m (xs:List Int):List Int→Nat→(List Int × List Int) × Nat
 | [],a=>(([],[]),a)
 | x::s,a=>((tv xs a (x+1)::(a5m xs s (ta xs (ta xs a (x+1)) (x-tv xs a (x+1)+1))).1.1,tv xs (ta xs a (x+1)) (x-tv xs a (x+1)+1)::(a5m xs s (ta xs (ta xs a (x+1)) (x-tv xs a (x+1)+1))).1.2),(a5m xs s (ta xs (ta xs a (x+1)) (x-tv xs a (x+1)+1))).2)
def kOp6 (xs:List Int) (b q:Nat) (s:List Int):a0l × Nat :=
 (ndV 15 [(q:Int)] [] ((a5m xs s b).1.1++(a5m xs s b).1.2) 0 0,(a5m xs s b).2)
theorem d2w {lo hi rest:List Int}{x f z:Int}{a9 a1 a2:Nat}{F:(List Int × List Int) × Nat}(h:((lo++(a5m xs (x::rest) a9).1.1,hi++(a5m xs (x::rest) a9).1.2),(a5m xs (x::rest) a9).2)=F)(h1:tv xs a9 (x+1)=f)(h2:ta xs a9 (x+1)=a1)(h3:tv xs a1 (x-f+1)=z)(h4:ta xs a1 (x-f+1)=a2):
  (((lo++[f])++(a5m xs rest a2).1.1,(hi++[z])++(a5m xs rest a2).1.2),(a5m xs rest a2).2)=F:=by
 subst h1;subst h2;subst h3;subst h4;rw[←h,a5m,List.append_assoc,List.append_assoc];rfl
theorem e2f (q b:Nat)(h5:¬ tv xs a 5=0)(hq:tv xs (ta xs a 5) nl=q)(hs:L[q]?=some s)(hb:ta xs (ta xs (ta xs a 5) nl) 12=b)(hk:tv xs (ta xs (ta xs a 5) nl) 12=9)(hs4:s.length≤4)(H:Sep w0 w l)(hi:l[i]?=some (TB g A n c a))(hI:Ints w0 A n xs)(ha:a≤n)(hL:a6v w0 l i g A n c Al nl L):
  Calls prog 24 #[.pointer (some ⟨g,0,none⟩),.slice Al nl cl] w (a3g w0 l i g A n c (kOp9 xs b q s)):=by
 obtain⟨KS,hKS⟩:∃ q0,kOp9 xs b q s=q0:=⟨_,rfl⟩;rw[hKS];have HKS:=Hd hKS;clear hKS;have HXL:=Hd hI.len;have HI:=Hd hI;have hnle:=hI.le;have hll:=hL.1;have hln:=hL.2.1;have HLL:=Hd hll;have HLK:=Hd hL;have HK:Hid (KT l i (TB g A n c a) l):=Hd ⟨hi,fun _=>rfl⟩;clear hll;have h1:=(((H.allocBox w.heap.size 49 zN rfl).addNil 3).addNil 3).addNil 3
 go_enter func24,ntmps24
 go_upto_region 1 with fail
 generalize w.alloc (.cells zA 49)=W at *;generalize w.heap.size=gr at *;clear H hi hI hL;have H:Hid (Sep w0 W ([oN,oN,oN,.box gr 49 zN]++l)):=Hd h1;clear h1;have hnl:0<nl:=by have h8:L.length=nl:=HLL.out;have:=(lL hs);omega
 have dn:((nl:Int)==0)=false:=by simp;omega
 have HQ0:=Hd hq;have HB0:=Hd hb;have HK0:=Hd hk;have HS0:=Hd hs;have h5n:=Hd h5;clear hq hb hk hs h5
 go_wp2_with fail
 refine(a0x (5) H HK HI ha (by omega) ⟨by omega,by omega⟩).mono ?_;clear H HK;rintro e1 w1 ⟨r1,a1,l1,rfl,HR1,br1,HA1,ba1,HK,H⟩;have d5:((r1:Int)==0)=false:=by have h8:=HR1.out;have h9:=h5n.out;rw[h8] at h9;simpa using h9
 go_wp2_with fail
 refine(a0x ((nl:Int)) H HK HI ba1 (by omega) ⟨by omega,by omega⟩).mono ?_;clear H HK;rintro e2 w2 ⟨r2,a2,l2,rfl,HR2,br2,HA2,ba2,HK,H⟩;obtain rfl:r2=q:=by have h8:=HR2.out;have h9:=HQ0.out;rw[HA1.out,h8] at h9;omega
 obtain⟨la,Bs,ms,cap,hAl,hmc,hst⟩:=HLK.out.2.2 r2 s HS0;subst hAl;have HST:=Hd hst;obtain⟨hlb,hcl,hIs⟩:=hst w2 a2 l2 HK H.rest_;have HSL:=Hd hIs.len;have hmsl:=hIs.le;have hr2:r2<nl:=by omega
 clear hst hIs hlb
 go_wp2_with fail
 clear hcl;refine(a0x (12) H HK HI ba2 (by omega) ⟨by omega,by omega⟩).mono ?_;clear H HK;rintro e3 w3 ⟨r3,a3,l3,rfl,HR3,br3,HA3,ba3,HK,H⟩;obtain rfl:r3=9:=by have h8:=HR3.out;have h9:=HK0.out;rw[HA1.out,HA2.out,h8] at h9;omega
 obtain rfl:a3=b:=by have h8:=HA3.out;have h9:=HB0.out;rw[HA1.out,HA2.out,h8] at h9;exact h9
 clear HR1 HR2 HR3 HQ0 HB0 HK0 h5n d5 dn
 go_wp2_with fail
 replace H:Hid (Sep w0 w3 ([oN,oN,oN,oN,.box gr 49 zN]++l3)):=Hd (H.addNil 3)
 go_loopw [294,25] (fun iv av wr=>∃(j:Nat) (va:Value) (acc:List Int) (a9:Nat) (l9:List a0e),va=av∧iv=.int .i64 j∧j≤ms∧acc.length≤j∧a9≤n∧(acc++(a3a xs (ms-j) j a9).1,(a3a xs (ms-j) j a9).2)=a3a xs ms 0 a3∧KT l i (TB g A n c a9) l9∧Sep w0 wr ([.own 3 va acc.length acc,oN,oN,oN,.box gr 49 zN]++l9)) (fun iv _ _=>ms-(intOf iv).toNat)
 case atStart=>exact⟨0,_,[],a3,_,rfl,rfl,by omega,Nat.le_refl _,ba3,rfl,HK,H⟩
 case round =>
  clear H HK;obtain⟨j,va,acc,a9,l9,rfl,rfl,hj,hal,ba9,hq,hK,hS⟩:=hrel;have H:=Hd hS;have HK:=Hd hK;have HQ:=Hd hq;clear hS hK hq;by_cases hlt:j<ms
  ·obtain⟨m,hm⟩:∃ m,ms-j=m+1:=⟨ms-j-1,by omega⟩;have HM:=Hd (show ms-(j+1)=m by omega);have HQD:=Hd (show(acc++(a3a xs (m+1) j a9).1,(a3a xs (m+1) j a9).2)=a3a xs ms 0 a3 by rw[←hm];exact HQ);clear hm
   go_wp2_with fail
   refine(a0x (2) H HK HI ba9 (by omega) ⟨by omega,by omega⟩).mono ?_;clear H HK;rintro e21 w21 ⟨r21,a21,l21,rfl,HR21,br21,HA21,ba21,HK,H⟩;by_cases q0:r21=0
   ·subst q0;have HQE:=Hd (show((acc++[(j:Int)])++(a3a xs m (j+1) a21).1,(a3a xs m (j+1) a21).2)=a3a xs ms 0 a3 by have h7:=HQD.out;rw[a3a,iP (by rw[HR21.out];rfl),HA21.out] at h7;rw[List.append_assoc];exact h7)
    go_wp2_with (at_builtin;refine a0o rfl (.tmp 300) (.tmp 302) 25 3 rfl underlying25 Tryz.infoInt H.out 0 rfl rfl (j:Int) ⟨by omega,by omega⟩ _ rfl ?c1 ?_)
    case c1=>have h9:=hs4;have h10:=HSL.out;omega
    intro v' w' h';have H8:=Hd h';clear h';go_wp2;go_roundw
    case rel=>exact⟨j+1,_,acc++[(j:Int)],a21,_,rfl,by go_num,by omega,by rw[List.length_append,List.length_singleton];omega,ba21,by rw[HM.out];exact HQE,HK,by rw[List.length_append,List.length_singleton];exact H8⟩
    case measure=>simp[intOf];omega
   ·have d0:((r21:Int)==0)=false:=by simp;omega
    have HQE:=Hd (show(acc++(a3a xs m (j+1) a21).1,(a3a xs m (j+1) a21).2)=a3a xs ms 0 a3 by have h7:=HQD.out;rw[a3a,iN (by rw[HR21.out];omega),HA21.out] at h7;exact h7);go_wp2;go_roundw
    case rel=>exact⟨j+1,_,acc,a21,_,rfl,by go_num,by omega,by omega,ba21,by rw[HM.out];exact HQE,HK,H⟩
    case measure=>simp[intOf];omega
  ·have hjm:j=ms:=by omega
   subst hjm;have HE:=Hd (show a3a xs j 0 a3=(acc,a9) by rw[←HQ.out,Nat.sub_self,a3a,List.append_nil]);obtain⟨A9,c9,hv,hmc9,_,_⟩:=(H.ownS 0 rfl).form;subst hv;replace H:=Hd (H.litP 3 #[.int .i64 ((r2:Int))] [((r2:Int))] 1 rfl (by first|(simp[a1e];done)|(simp[a1e];omega)))
   go_wp2_with fail
   refine(a0x (4) H HK HI ba9 (by omega) ⟨by omega,by omega⟩).mono ?_;clear H HK;rintro e22 w22 ⟨r22,a22,l22,rfl,HR22,br22,HA22,ba22,HK,H⟩;have HX:=Hd (show KS=(ndV 18 [(r2:Int)] [] acc 0 (1+(r22:Int)),a22) by rw[←HKS.out,kOp9,HSL.out,HE.out,HR22.out,HA22.out]);obtain⟨rc0,rc1,rc2,rc3,rc4,rc5,rc6⟩:=H.cells7 5 rfl;obtain⟨fr0,fr1,fr2,fr3,fr4,fr5,fr6⟩:=H.f7 5 rfl;have HF:=Hd (H.set7 5 rfl (.int .i64 18) (.slice (some ⟨wr.heap.size,0,none⟩) 1 1) (.slice none 0 0) (.slice A9 acc.length c9) (.int .i64 0) (.int .i64 (1+(r22:Int))) (.string ⟨#[]⟩));go_wp2;refine a1g HF 5 rfl results24 rfl rfl ?_;rw[HX.out];exact⟨_,_,_,_,_,_,rfl,_,HK,Sep.pick HF [0,2,1] rfl (by decide)⟩
theorem e2d (q b:Nat)(h5:¬ tv xs a 5=0)(hq:tv xs (ta xs a 5) nl=q)(hs:L[q]?=some s)(hb:ta xs (ta xs (ta xs a 5) nl) 12=b)(hk:tv xs (ta xs (ta xs a 5) nl) 12=7)(hs4:s.length≤4)(H:Sep w0 w l)(hi:l[i]?=some (TB g A n c a))(hI:Ints w0 A n xs)(ha:a≤n)(hL:a6v w0 l i g A n c Al nl L):
  Calls prog 24 #[.pointer (some ⟨g,0,none⟩),.slice Al nl cl] w (a3g w0 l i g A n c (kOp7 xs b q s)):=by
 obtain⟨KS,hKS⟩:∃ q0,kOp7 xs b q s=q0:=⟨_,rfl⟩;rw[hKS];have HKS:=Hd hKS;clear hKS;have HXL:=Hd hI.len;have HI:=Hd hI;have hnle:=hI.le;have hll:=hL.1;have hln:=hL.2.1;have HLL:=Hd hll;have HLK:=Hd hL;have HK:Hid (KT l i (TB g A n c a) l):=Hd ⟨hi,fun _=>rfl⟩;clear hll;have h1:=(((H.allocBox w.heap.size 49 zN rfl).addNil 3).addNil 3).addNil 3
 go_enter func24,ntmps24
 go_upto_region 1 with fail
 generalize w.alloc (.cells zA 49)=W at *;generalize w.heap.size=gr at *;clear H hi hI hL;have H:Hid (Sep w0 W ([oN,oN,oN,.box gr 49 zN]++l)):=Hd h1;clear h1;have hnl:0<nl:=by have h8:L.length=nl:=HLL.out;have:=(lL hs);omega
 have dn:((nl:Int)==0)=false:=by simp;omega
 have HQ0:=Hd hq;have HB0:=Hd hb;have HK0:=Hd hk;have HS0:=Hd hs;have h5n:=Hd h5;clear hq hb hk hs h5
 go_wp2_with fail
 refine(a0x (5) H HK HI ha (by omega) ⟨by omega,by omega⟩).mono ?_;clear H HK;rintro e1 w1 ⟨r1,a1,l1,rfl,HR1,br1,HA1,ba1,HK,H⟩;have d5:((r1:Int)==0)=false:=by have h8:=HR1.out;have h9:=h5n.out;rw[h8] at h9;simpa using h9
 go_wp2_with fail
 refine(a0x ((nl:Int)) H HK HI ba1 (by omega) ⟨by omega,by omega⟩).mono ?_;clear H HK;rintro e2 w2 ⟨r2,a2,l2,rfl,HR2,br2,HA2,ba2,HK,H⟩;obtain rfl:r2=q:=by have h8:=HR2.out;have h9:=HQ0.out;rw[HA1.out,h8] at h9;omega
 obtain⟨la,Bs,ms,cap,hAl,hmc,hst⟩:=HLK.out.2.2 r2 s HS0;subst hAl;have HST:=Hd hst;obtain⟨hlb,hcl,hIs⟩:=hst w2 a2 l2 HK H.rest_;have HSL:=Hd hIs.len;have hmsl:=hIs.le;have hr2:r2<nl:=by omega
 clear hst hIs hlb
 go_wp2_with fail
 clear hcl;refine(a0x (12) H HK HI ba2 (by omega) ⟨by omega,by omega⟩).mono ?_;clear H HK;rintro e3 w3 ⟨r3,a3,l3,rfl,HR3,br3,HA3,ba3,HK,H⟩;obtain rfl:r3=7:=by have h8:=HR3.out;have h9:=HK0.out;rw[HA1.out,HA2.out,h8] at h9;omega
 obtain rfl:a3=b:=by have h8:=HA3.out;have h9:=HB0.out;rw[HA1.out,HA2.out,h8] at h9;exact h9
 clear HR1 HR2 HR3 HQ0 HB0 HK0 h5n d5 dn
 go_wp2_with fail
 replace H:Hid (Sep w0 w3 ([oN,oN,oN,oN,.box gr 49 zN]++l3)):=Hd (H.addNil 3);replace H:Hid (Sep w0 w3 ([oN,oN,oN,oN,oN,.box gr 49 zN]++l3)):=Hd (H.addNil 3)
 go_loopw [238,22,23] (fun iv av bv wr=>∃(j:Nat) (vl vh:Value) (lo hi:List Int) (a9:Nat) (l9:List a0e),vl=av∧vh=bv∧iv=.int .i64 j∧j≤ms∧lo.length=j∧a9≤n∧((lo++(a5r xs (ms-j) a9).1.1,hi++(a5r xs (ms-j) a9).1.2),(a5r xs (ms-j) a9).2)=a5r xs ms a3∧KT l i (TB g A n c a9) l9∧Sep w0 wr ([.own 3 vl lo.length lo,.own 3 vh lo.length hi,oN,oN,oN,.box gr 49 zN]++l9)) (fun iv _ _ _=>ms-(intOf iv).toNat)
 case atStart=>exact⟨0,_,_,[],[],a3,_,rfl,rfl,rfl,by omega,rfl,ba3,rfl,HK,H⟩
 case round =>
  clear H HK;obtain⟨j,vl,vh,lo,hi,a9,l9,rfl,rfl,rfl,hj,hal,ba9,hq,hK,hS⟩:=hrel;have H:=Hd hS;have HK:=Hd hK;have HQ:=Hd hq;have HAL:=Hd hal;clear hS hK hq hal;by_cases hlt:j<ms
  ·obtain⟨m,hm⟩:∃ m,ms-j=m+1:=⟨ms-j-1,by omega⟩;have HM:=Hd (show ms-(j+1)=m by omega);have HQD:=Hd (show((lo++(a5r xs (m+1) a9).1.1,hi++(a5r xs (m+1) a9).1.2),(a5r xs (m+1) a9).2)=a5r xs ms a3 by rw[←hm];exact HQ);clear hm
   go_wp2_with fail
   refine(a0x (3) H HK HI ba9 (by omega) ⟨by omega,by omega⟩).mono ?_;clear H HK;rintro e21 w21 ⟨r21,a21,l21,rfl,HR21,br21,HA21,ba21,HK,H⟩
   go_wp2_with (at_builtin;refine a0o rfl (.tmp 240) (.tmp 243) 25 3 rfl underlying25 Tryz.infoInt H.out 0 rfl rfl ((r21:Int)) ⟨by omega,by omega⟩ _ rfl ?c1 ?_)
   case c1=>have h8:=HAL.out;have h9:=hs4;have h10:=HSL.out;omega
   intro vlo wlo h';replace H:Hid (Sep w0 wlo ([.own 3 vlo (lo.length+1) (lo++[(r21:Int)]),.own 3 vh lo.length hi,oN,oN,oN,.box gr 49 zN]++l21)):=Hd h';clear h'
   go_wp2_with fail
   refine(a0x (3) H HK HI ba21 (by omega) ⟨by omega,by omega⟩).mono ?_;clear H HK;rintro e22 w22 ⟨r22,a22,l22,rfl,HR22,br22,HA22,ba22,HK,H⟩
   go_wp2_with (at_builtin;refine a0o rfl (.tmp 245) (.tmp 248) 25 3 rfl underlying25 Tryz.infoInt H.out 1 rfl rfl ((r22:Int)) ⟨by omega,by omega⟩ _ rfl ?c1 ?_)
   case c1=>have h8:=HAL.out;have h9:=hs4;have h10:=HSL.out;omega
   intro vhi whi h';replace H:Hid (Sep w0 whi ([.own 3 vlo (lo.length+1) (lo++[(r21:Int)]),.own 3 vhi (lo.length+1) (hi++[(r22:Int)]),oN,oN,oN,.box gr 49 zN]++l22)):=Hd h';clear h';have HQE:=Hd (show(((lo++[(r21:Int)])++(a5r xs m a22).1.1,(hi++[(r22:Int)])++(a5r xs m a22).1.2),(a5r xs m a22).2)=a5r xs ms a3 by have h7:=HQD.out;rw[a5r,HR21.out,HA21.out,HR22.out,HA22.out] at h7;rw[List.append_assoc,List.append_assoc];exact h7);go_wp2;go_roundw
   case rel=>exact⟨j+1,_,_,lo++[(r21:Int)],hi++[(r22:Int)],a22,_,rfl,rfl,by go_num,by omega,by rw[List.length_append,List.length_singleton,HAL.out],ba22,by rw[HM.out];exact HQE,HK,by rw[List.length_append,List.length_singleton];exact H⟩
   case measure=>simp[intOf];omega
  ·have hjm:j=ms:=by omega
   subst hjm;have HE:=Hd (show a5r xs j a3=((lo,hi),a9) by rw[←HQ.out,Nat.sub_self,a5r,List.append_nil,List.append_nil]);obtain⟨A9,c9,hv,hmc9,_,_⟩:=(H.ownS 0 rfl).form;subst hv;obtain⟨A8,c8,hv,hmc8,_,_⟩:=(H.ownS 1 rfl).form;subst hv;replace H:=Hd (H.litP 3 #[.int .i64 ((r2:Int))] [((r2:Int))] 1 rfl (by first|(simp[a1e];done)|(simp[a1e];omega)))
   go_wp2_with (at_builtin;refine a0g rfl (.tmp 253) (.tmp 254) 25 3 rfl underlying25 Tryz.infoInt H.out 1 rfl rfl A8 lo.length c8 hi rfl ((H.out.ownInts 2 rfl).2.2) ?c1 ?_)
   case c1=>have h8:=HAL.out;have h9:=hs4;have h10:=HSL.out;omega
   intro vj wj h';replace H:Hid (Sep w0 wj ([.own 3 (.slice (some ⟨wr.heap.size,0,none⟩) 1 1) 1 [((r2:Int))],.own 3 vj (lo.length+lo.length) (lo++hi),.own 3 (.slice A8 lo.length c8) lo.length hi,oN,oN,oN,.box gr 49 zN]++l9)):=Hd h';clear h';obtain⟨A7,c7,hv,hmc7,_,_⟩:=(H.ownS 1 rfl).form;subst hv
   go_wp2_with fail
   refine(c3i H HK HI ba9).mono ?_;rintro e23 w23 ⟨rfl,l23,hK,hS⟩;have ba23:=b7x HXL ba9;have hfN:=a9v xs a9;obtain⟨⟨x23,a23⟩,hx⟩:∃ q,kNum xs a9=q:=⟨_,rfl⟩;rw[hx] at ba23 hK hfN ⊢;have HN23:=Hd hx;replace HK:=Hd hK;have HF23:=Hd hfN;replace H:Hid (Sep w0 w23 ([.own 3 (.slice (some ⟨wr.heap.size,0,none⟩) 1 1) 1 [((r2:Int))],.own 3 (.slice A7 (lo.length+lo.length) c7) (lo.length+lo.length) (lo++hi),.own 3 (.slice A8 lo.length c8) lo.length hi,oN,oN,oN,.box gr 49 zN]++l23)):=Hd hS;clear hx hK hS hfN;simp only at ba23;have HX:=Hd (show KS=(ndV 16 [(r2:Int)] [] (lo++hi) x23 0,a23) by rw[←HKS.out,kOp7,HSL.out,HE.out,HN23.out]);obtain⟨rc0,rc1,rc2,rc3,rc4,rc5,rc6⟩:=H.cells7 6 rfl;obtain⟨fr0,fr1,fr2,fr3,fr4,fr5,fr6⟩:=H.f7 6 rfl;have HF:=Hd (H.set7 6 rfl (.int .i64 16) (.slice (some ⟨wr.heap.size,0,none⟩) 1 1) (.slice none 0 0) (.slice A7 (lo.length+lo.length) c7) (.int .i64 x23) (.int .i64 0) (.string ⟨#[]⟩));go_wp2;refine a1g HF 6 rfl results24 rfl rfl ?_;rw[HX.out];exact⟨_,_,_,_,_,_,rfl,_,HK,Sep.pick HF [0,3,1] rfl (by decide)⟩
end Go.Proofs.YtdcmanhgekjhgaaGreatDoor
