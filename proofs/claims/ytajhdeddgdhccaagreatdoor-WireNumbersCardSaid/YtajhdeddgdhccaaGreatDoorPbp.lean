import Derived.Test.YtajhdeddgdhccaaGreatDoorPbo
set_option maxRecDepth 100000
set_option maxHeartbeats 12800000
namespace Go.Proofs.YtajhdeddgdhccaaGreatDoor
open Go.RowKit Go.Proofs.Tryz
variable {A Al:Option Addr} {L:List (List Int)} {a c cl g i n nl:Nat} {l:List a0i} {s xs:List Int} {w w0:World}
theorem a7s (s:List Int):∀(L:List (List Int)) (k:Nat),(a2e k L s).length≤L.length
 | [],_=>by simp[a2e]
 | x::L,k=>by
  have:=a7s s L (k+1);rw[a2e]
  split <;> simp only[List.length_cons] <;> omega
theorem a7t {s:List Int}:∀ {L:List (List Int)} {k q:Nat},L[q]?=some s→0<(a2e k L s).length
 | [],_,_,h=>by simp at h
 | x::L,k,q,h=>by
  rw[a2e];by_cases e:x=s
  ·rw[iP e,List.length_cons];omega
  ·rw[iN e]
   cases q with
   | zero=>exact absurd (by simpa using h) e
   | succ q=>exact a7t (by simpa using h)
def kOp0 (xs:List Int) (b q:Nat):a0p × Nat:=(ndV (4+tv xs b 2) [(q:Int)] [] [] 0 0,ta xs b 2)
def kOp1 (xs:List Int) (b q:Nat) (s:List Int) (L:List (List Int)):a0p × Nat :=
 (ndV (6+tv xs b 6) [(q:Int),(a2e 0 L s).getD (tv xs (ta xs b 6) (a2e 0 L s).length).toNat 0] [] [] 0 0,ta xs (ta xs b 6) (a2e 0 L s).length)
def b9d (xs:List Int) (b q:Nat) (s:List Int):a0p × Nat :=
 if s.length=0 then(ndV 4 [(q:Int)] [] [] 0 0,b)
 else(ndV 20 [(q:Int)] [] [tv xs b s.length,1+tv xs (ta xs b s.length) 3,1+tv xs (ta xs (ta xs b s.length) 3) 2] 0 (1+tv xs (ta xs (ta xs (ta xs b s.length) 3) 2) 4),ta xs (ta xs (ta xs (ta xs b s.length) 3) 2) 4)
theorem d1s (q b:Nat)(h5:¬ tv xs a 5=0)(hq:tv xs (ta xs a 5) nl=q)(hs:L[q]?=some s)(hb:ta xs (ta xs (ta xs a 5) nl) 12=b)(hk:tv xs (ta xs (ta xs a 5) nl) 12=0)(H:Sep w0 w l)(hi:l[i]?=some (TB g A n c a))(hI:Ints w0 A n xs)(ha:a≤n)(hL:a5l w0 l i g A n c Al nl L):
  Calls prog 17 #[.pointer (some ⟨g,0,none⟩),.slice Al nl cl] w (a2m w0 l i g A n c (kOp0 xs b q)):=by
 obtain⟨KS,hKS⟩:∃ q0,kOp0 xs b q=q0:=⟨_,rfl⟩;rw[hKS];have HKS:=Hd hKS;clear hKS;have HXL:=Hd hI.len;have HI:=Hd hI;have hnle:=hI.le;have hll:=hL.1;have hln:=hL.2.1;have HLL:=Hd hll;have HLK:=Hd hL;have HK:Hid (KT l i (TB g A n c a) l):=Hd ⟨hi,fun _=>rfl⟩;clear hll;have h1:=(((H.allocBox w.heap.size 37 zN rfl).addNil 3).addNil 3).addNil 3
 go_enter func17,ntmps17
 go_upto_region 1 with fail
 generalize w.alloc (.cells zA 37)=W at *;generalize w.heap.size=gr at *;clear H hi hI hL;have H:Hid (Sep w0 W ([oN,oN,oN,.box gr 37 zN]++l)):=Hd h1;clear h1;have hnl:0<nl:=by have h8:L.length=nl:=HLL.out;have:=(lL hs);omega
 have dn:((nl:Int)==0)=false:=by simp;omega
 have HQ0:=Hd hq;have HB0:=Hd hb;have HK0:=Hd hk;have HS0:=Hd hs;have h5n:=Hd h5;clear hq hb hk hs h5
 go_wp2_with fail
 refine(a0s (5) H HK HI ha (by omega) ⟨by omega,by omega⟩).mono ?_;clear H HK;rintro e1 w1 ⟨r1,a1,l1,rfl,HR1,br1,HA1,ba1,HK,H⟩;have d5:((r1:Int)==0)=false:=by have h8:=HR1.out;have h9:=h5n.out;rw[h8] at h9;simpa using h9
 go_wp2_with fail
 refine(a0s ((nl:Int)) H HK HI ba1 (by omega) ⟨by omega,by omega⟩).mono ?_;clear H HK;rintro e2 w2 ⟨r2,a2,l2,rfl,HR2,br2,HA2,ba2,HK,H⟩;obtain rfl:r2=q:=by have h8:=HR2.out;have h9:=HQ0.out;rw[HA1.out,h8] at h9;omega
 obtain⟨la,Bs,ms,cap,hAl,hmc,hst⟩:=HLK.out.2.2 r2 s HS0;subst hAl;have HST:=Hd hst;obtain⟨hlb,hcl,hIs⟩:=hst w2 a2 l2 HK H.rest_;have HSL:=Hd hIs.len;have hmsl:=hIs.le;have hr2:r2<nl:=by omega
 clear hst hIs hlb
 go_wp2_with fail
 clear hcl;refine(a0s (12) H HK HI ba2 (by omega) ⟨by omega,by omega⟩).mono ?_;clear H HK;rintro e3 w3 ⟨r3,a3,l3,rfl,HR3,br3,HA3,ba3,HK,H⟩;obtain rfl:r3=0:=by have h8:=HR3.out;have h9:=HK0.out;rw[HA1.out,HA2.out,h8] at h9;omega
 obtain rfl:a3=b:=by have h8:=HA3.out;have h9:=HB0.out;rw[HA1.out,HA2.out,h8] at h9;exact h9
 clear HR1 HR2 HR3 HQ0 HB0 HK0 h5n d5 dn
 go_wp2_with fail
 refine(a0s (2) H HK HI ba3 (by omega) ⟨by omega,by omega⟩).mono ?_;clear H HK;rintro e4 w4 ⟨r4,a4,l4,rfl,HR4,br4,HA4,ba4,HK,H⟩;replace H:=Hd (H.litP 3 #[.int .i64 ((r2:Int))] [((r2:Int))] 1 rfl (by first|(simp[a1d];done)|(simp[a1d];omega)));have HX:=Hd (show KS=(ndV (4+(r4:Int)) [(r2:Int)] [] [] 0 0,a4) by rw[←HKS.out,kOp0,HR4.out,HA4.out]);obtain⟨rc0,rc1,rc2,rc3,rc4,rc5,rc6⟩:=H.cells7 4 rfl;obtain⟨fr0,fr1,fr2,fr3,fr4,fr5,fr6⟩:=H.f7 4 rfl;have HF:=Hd (H.set7 4 rfl (.int .i64 (4+(r4:Int))) (.slice (some ⟨w4.heap.size,0,none⟩) 1 1) (.slice none 0 0) (.slice none 0 0) (.int .i64 0) (.int .i64 0) (.string ⟨#[]⟩));go_wp2;refine a0y HF 4 rfl results17 rfl rfl ?_;rw[HX.out];exact⟨_,_,_,_,_,_,rfl,_,HK,Sep.pick HF [0,1,2] rfl (by decide)⟩
theorem d1t (q b:Nat)(h5:¬ tv xs a 5=0)(hq:tv xs (ta xs a 5) nl=q)(hs:L[q]?=some s)(hb:ta xs (ta xs (ta xs a 5) nl) 12=b)(hk:tv xs (ta xs (ta xs a 5) nl) 12=1)(H:Sep w0 w l)(hi:l[i]?=some (TB g A n c a))(hI:Ints w0 A n xs)(ha:a≤n)(hL:a5l w0 l i g A n c Al nl L):
  Calls prog 17 #[.pointer (some ⟨g,0,none⟩),.slice Al nl cl] w (a2m w0 l i g A n c (kOp1 xs b q s L)):=by
 obtain⟨KS,hKS⟩:∃ q0,kOp1 xs b q s L=q0:=⟨_,rfl⟩;rw[hKS];have HKS:=Hd hKS;clear hKS;have HXL:=Hd hI.len;have HI:=Hd hI;have hnle:=hI.le;have hll:=hL.1;have hln:=hL.2.1;have HLL:=Hd hll;have HLK:=Hd hL;have HK:Hid (KT l i (TB g A n c a) l):=Hd ⟨hi,fun _=>rfl⟩;clear hll;have h1:=(((H.allocBox w.heap.size 37 zN rfl).addNil 3).addNil 3).addNil 3
 go_enter func17,ntmps17
 go_upto_region 1 with fail
 generalize w.alloc (.cells zA 37)=W at *;generalize w.heap.size=gr at *;clear H hi hI hL;have H:Hid (Sep w0 W ([oN,oN,oN,.box gr 37 zN]++l)):=Hd h1;clear h1;have hnl:0<nl:=by have h8:L.length=nl:=HLL.out;have:=(lL hs);omega
 have dn:((nl:Int)==0)=false:=by simp;omega
 have HQ0:=Hd hq;have HB0:=Hd hb;have HK0:=Hd hk;have HS0:=Hd hs;have h5n:=Hd h5;clear hq hb hk hs h5
 go_wp2_with fail
 refine(a0s (5) H HK HI ha (by omega) ⟨by omega,by omega⟩).mono ?_;clear H HK;rintro e1 w1 ⟨r1,a1,l1,rfl,HR1,br1,HA1,ba1,HK,H⟩;have d5:((r1:Int)==0)=false:=by have h8:=HR1.out;have h9:=h5n.out;rw[h8] at h9;simpa using h9
 go_wp2_with fail
 refine(a0s ((nl:Int)) H HK HI ba1 (by omega) ⟨by omega,by omega⟩).mono ?_;clear H HK;rintro e2 w2 ⟨r2,a2,l2,rfl,HR2,br2,HA2,ba2,HK,H⟩;obtain rfl:r2=q:=by have h8:=HR2.out;have h9:=HQ0.out;rw[HA1.out,h8] at h9;omega
 obtain⟨la,Bs,ms,cap,hAl,hmc,hst⟩:=HLK.out.2.2 r2 s HS0;subst hAl;have HST:=Hd hst;obtain⟨hlb,hcl,hIs⟩:=hst w2 a2 l2 HK H.rest_;have HSL:=Hd hIs.len;have hmsl:=hIs.le;have hr2:r2<nl:=by omega
 clear hst hIs hlb
 go_wp2_with fail
 clear hcl;refine(a0s (12) H HK HI ba2 (by omega) ⟨by omega,by omega⟩).mono ?_;clear H HK;rintro e3 w3 ⟨r3,a3,l3,rfl,HR3,br3,HA3,ba3,HK,H⟩;obtain rfl:r3=1:=by have h8:=HR3.out;have h9:=HK0.out;rw[HA1.out,HA2.out,h8] at h9;omega
 obtain rfl:a3=b:=by have h8:=HA3.out;have h9:=HB0.out;rw[HA1.out,HA2.out,h8] at h9;exact h9
 clear HR1 HR2 HR3 HQ0 HB0 HK0 h5n d5 dn
 go_wp2_with fail
 refine(c3v (c:=cap) (HLK.lils HK H.rest_) (HST _ _ _ HK H.rest_).2.2).mono ?_;rintro e9 w9 ⟨⟨v9,m9,rfl,hO⟩,hb9⟩;have HPOS:=Hd (a7t (k:=0) HS0);have HML:=Hd hO.len;have hm9:0<m9:=by have h8:=HML.out;have h9:=HPOS.out;omega
 obtain⟨gl,cl9,hv,_⟩:=hO.own hm9;subst hv;have hm900:m9≤900:=by have h8:=HML.out;have h9:=a7s s L 0;have h10:L.length=nl:=HLL.out;omega
 obtain⟨LS,hLS⟩:∃ q,a2e 0 L s=q:=⟨_,rfl⟩;rw[hLS] at hO;have HLS:=Hd hLS;have h9:=H.addOwn hb9 hO;replace H:Hid (Sep w0 w9 ([.own 3 (.slice (some ⟨gl,0,none⟩) m9 cl9) m9 LS,oN,oN,oN,.box gr 37 zN]++l3)):=Hd h9;have HMS:Hid (LS.length=m9):=Hd (by rw[←hLS];exact HML);clear hO hb9 h9 hLS HML HPOS
 go_wp2_with fail
 refine(a0s (6) H HK HI ba3 (by omega) ⟨by omega,by omega⟩).mono ?_;clear H HK;rintro e4 w4 ⟨r4,a4,l4,rfl,HR4,br4,HA4,ba4,HK,H⟩
 go_wp2_with fail
 refine(a0s ((m9:Int)) H HK HI ba4 (by omega) ⟨by omega,by omega⟩).mono ?_;clear H HK;rintro e5 w5 ⟨r5,a5,l5,rfl,HR5,br5,HA5,ba5,HK,H⟩;obtain⟨y,hy⟩:∃ y,LS[r5]?=some y:=gE (by have h8:=HMS.out;omega);have hcy:=(H.own 0 rfl).cell hy;have hry:r5<m9:=by omega
 have hfy:=(H.own 0 rfl).2.1 y (mG hy);obtain⟨fy1,fy2⟩:=hfy;replace H:=Hd (H.litP 3 #[.int .i64 ((r2:Int)),.int .i64 (y)] [((r2:Int)),(y)] 2 rfl (by first|(simp[a1d];done)|(simp[a1d];omega)));have HX:=Hd (show KS=(ndV (6+(r4:Int)) [(r2:Int),y] [] [] 0 0,a5) by rw[←HKS.out,kOp1,HLS.out,HR4.out,HA4.out,HMS.out,HR5.out,HA5.out,Int.toNat_natCast,gD,hy];rfl);clear hy;obtain⟨rc0,rc1,rc2,rc3,rc4,rc5,rc6⟩:=H.cells7 5 rfl;obtain⟨fr0,fr1,fr2,fr3,fr4,fr5,fr6⟩:=H.f7 5 rfl;have HF:=Hd (H.set7 5 rfl (.int .i64 (6+(r4:Int))) (.slice (some ⟨w5.heap.size,0,none⟩) 2 2) (.slice none 0 0) (.slice none 0 0) (.int .i64 0) (.int .i64 0) (.string ⟨#[]⟩));go_wp2;refine a0y HF 5 rfl results17 rfl rfl ?_;rw[HX.out];exact⟨_,_,_,_,_,_,rfl,_,HK,Sep.pick HF [0,2,3] rfl (by decide)⟩
theorem d1u (q b:Nat)(h5:¬ tv xs a 5=0)(hq:tv xs (ta xs a 5) nl=q)(hs:L[q]?=some s)(hb:ta xs (ta xs (ta xs a 5) nl) 12=b)(hk:tv xs (ta xs (ta xs a 5) nl) 12=2)(H:Sep w0 w l)(hi:l[i]?=some (TB g A n c a))(hI:Ints w0 A n xs)(ha:a≤n)(hL:a5l w0 l i g A n c Al nl L):
  Calls prog 17 #[.pointer (some ⟨g,0,none⟩),.slice Al nl cl] w (a2m w0 l i g A n c (kOp1 xs b q s L)):=by
 obtain⟨KS,hKS⟩:∃ q0,kOp1 xs b q s L=q0:=⟨_,rfl⟩;rw[hKS];have HKS:=Hd hKS;clear hKS;have HXL:=Hd hI.len;have HI:=Hd hI;have hnle:=hI.le;have hll:=hL.1;have hln:=hL.2.1;have HLL:=Hd hll;have HLK:=Hd hL;have HK:Hid (KT l i (TB g A n c a) l):=Hd ⟨hi,fun _=>rfl⟩;clear hll;have h1:=(((H.allocBox w.heap.size 37 zN rfl).addNil 3).addNil 3).addNil 3
 go_enter func17,ntmps17
 go_upto_region 1 with fail
 generalize w.alloc (.cells zA 37)=W at *;generalize w.heap.size=gr at *;clear H hi hI hL;have H:Hid (Sep w0 W ([oN,oN,oN,.box gr 37 zN]++l)):=Hd h1;clear h1;have hnl:0<nl:=by have h8:L.length=nl:=HLL.out;have:=(lL hs);omega
 have dn:((nl:Int)==0)=false:=by simp;omega
 have HQ0:=Hd hq;have HB0:=Hd hb;have HK0:=Hd hk;have HS0:=Hd hs;have h5n:=Hd h5;clear hq hb hk hs h5
 go_wp2_with fail
 refine(a0s (5) H HK HI ha (by omega) ⟨by omega,by omega⟩).mono ?_;clear H HK;rintro e1 w1 ⟨r1,a1,l1,rfl,HR1,br1,HA1,ba1,HK,H⟩;have d5:((r1:Int)==0)=false:=by have h8:=HR1.out;have h9:=h5n.out;rw[h8] at h9;simpa using h9
 go_wp2_with fail
 refine(a0s ((nl:Int)) H HK HI ba1 (by omega) ⟨by omega,by omega⟩).mono ?_;clear H HK;rintro e2 w2 ⟨r2,a2,l2,rfl,HR2,br2,HA2,ba2,HK,H⟩;obtain rfl:r2=q:=by have h8:=HR2.out;have h9:=HQ0.out;rw[HA1.out,h8] at h9;omega
 obtain⟨la,Bs,ms,cap,hAl,hmc,hst⟩:=HLK.out.2.2 r2 s HS0;subst hAl;have HST:=Hd hst;obtain⟨hlb,hcl,hIs⟩:=hst w2 a2 l2 HK H.rest_;have HSL:=Hd hIs.len;have hmsl:=hIs.le;have hr2:r2<nl:=by omega
 clear hst hIs hlb
 go_wp2_with fail
 clear hcl;refine(a0s (12) H HK HI ba2 (by omega) ⟨by omega,by omega⟩).mono ?_;clear H HK;rintro e3 w3 ⟨r3,a3,l3,rfl,HR3,br3,HA3,ba3,HK,H⟩;obtain rfl:r3=2:=by have h8:=HR3.out;have h9:=HK0.out;rw[HA1.out,HA2.out,h8] at h9;omega
 obtain rfl:a3=b:=by have h8:=HA3.out;have h9:=HB0.out;rw[HA1.out,HA2.out,h8] at h9;exact h9
 clear HR1 HR2 HR3 HQ0 HB0 HK0 h5n d5 dn
 go_wp2_with fail
 refine(c3v (c:=cap) (HLK.lils HK H.rest_) (HST _ _ _ HK H.rest_).2.2).mono ?_;rintro e9 w9 ⟨⟨v9,m9,rfl,hO⟩,hb9⟩;have HPOS:=Hd (a7t (k:=0) HS0);have HML:=Hd hO.len;have hm9:0<m9:=by have h8:=HML.out;have h9:=HPOS.out;omega
 obtain⟨gl,cl9,hv,_⟩:=hO.own hm9;subst hv;have hm900:m9≤900:=by have h8:=HML.out;have h9:=a7s s L 0;have h10:L.length=nl:=HLL.out;omega
 obtain⟨LS,hLS⟩:∃ q,a2e 0 L s=q:=⟨_,rfl⟩;rw[hLS] at hO;have HLS:=Hd hLS;have h9:=H.addOwn hb9 hO;replace H:Hid (Sep w0 w9 ([.own 3 (.slice (some ⟨gl,0,none⟩) m9 cl9) m9 LS,oN,oN,oN,.box gr 37 zN]++l3)):=Hd h9;have HMS:Hid (LS.length=m9):=Hd (by rw[←hLS];exact HML);clear hO hb9 h9 hLS HML HPOS
 go_wp2_with fail
 refine(a0s (6) H HK HI ba3 (by omega) ⟨by omega,by omega⟩).mono ?_;clear H HK;rintro e4 w4 ⟨r4,a4,l4,rfl,HR4,br4,HA4,ba4,HK,H⟩
 go_wp2_with fail
 refine(a0s ((m9:Int)) H HK HI ba4 (by omega) ⟨by omega,by omega⟩).mono ?_;clear H HK;rintro e5 w5 ⟨r5,a5,l5,rfl,HR5,br5,HA5,ba5,HK,H⟩;obtain⟨y,hy⟩:∃ y,LS[r5]?=some y:=gE (by have h8:=HMS.out;omega);have hcy:=(H.own 0 rfl).cell hy;have hry:r5<m9:=by omega
 have hfy:=(H.own 0 rfl).2.1 y (mG hy);obtain⟨fy1,fy2⟩:=hfy;replace H:=Hd (H.litP 3 #[.int .i64 ((r2:Int)),.int .i64 (y)] [((r2:Int)),(y)] 2 rfl (by first|(simp[a1d];done)|(simp[a1d];omega)));have HX:=Hd (show KS=(ndV (6+(r4:Int)) [(r2:Int),y] [] [] 0 0,a5) by rw[←HKS.out,kOp1,HLS.out,HR4.out,HA4.out,HMS.out,HR5.out,HA5.out,Int.toNat_natCast,gD,hy];rfl);clear hy;obtain⟨rc0,rc1,rc2,rc3,rc4,rc5,rc6⟩:=H.cells7 5 rfl;obtain⟨fr0,fr1,fr2,fr3,fr4,fr5,fr6⟩:=H.f7 5 rfl;have HF:=Hd (H.set7 5 rfl (.int .i64 (6+(r4:Int))) (.slice (some ⟨w5.heap.size,0,none⟩) 2 2) (.slice none 0 0) (.slice none 0 0) (.int .i64 0) (.int .i64 0) (.string ⟨#[]⟩));go_wp2;refine a0y HF 5 rfl results17 rfl rfl ?_;rw[HX.out];exact⟨_,_,_,_,_,_,rfl,_,HK,Sep.pick HF [0,2,3] rfl (by decide)⟩
theorem c8e (q b:Nat)(h5:¬ tv xs a 5=0)(hq:tv xs (ta xs a 5) nl=q)(hs:L[q]?=some s)(hb:ta xs (ta xs (ta xs a 5) nl) 12=b)(hk:tv xs (ta xs (ta xs a 5) nl) 12=11)(H:Sep w0 w l)(hi:l[i]?=some (TB g A n c a))(hI:Ints w0 A n xs)(ha:a≤n)(hL:a5l w0 l i g A n c Al nl L):
  Calls prog 17 #[.pointer (some ⟨g,0,none⟩),.slice Al nl cl] w (a2m w0 l i g A n c (b9d xs b q s)):=by
 obtain⟨KS,hKS⟩:∃ q0,b9d xs b q s=q0:=⟨_,rfl⟩;rw[hKS];have HKS:=Hd hKS;clear hKS;have HXL:=Hd hI.len;have HI:=Hd hI;have hnle:=hI.le;have hll:=hL.1;have hln:=hL.2.1;have HLL:=Hd hll;have HLK:=Hd hL;have HK:Hid (KT l i (TB g A n c a) l):=Hd ⟨hi,fun _=>rfl⟩;clear hll;have h1:=(((H.allocBox w.heap.size 37 zN rfl).addNil 3).addNil 3).addNil 3
 go_enter func17,ntmps17
 go_upto_region 1 with fail
 generalize w.alloc (.cells zA 37)=W at *;generalize w.heap.size=gr at *;clear H hi hI hL;have H:Hid (Sep w0 W ([oN,oN,oN,.box gr 37 zN]++l)):=Hd h1;clear h1;have hnl:0<nl:=by have h8:L.length=nl:=HLL.out;have:=(lL hs);omega
 have dn:((nl:Int)==0)=false:=by simp;omega
 have HQ0:=Hd hq;have HB0:=Hd hb;have HK0:=Hd hk;have HS0:=Hd hs;have h5n:=Hd h5;clear hq hb hk hs h5
 go_wp2_with fail
 refine(a0s (5) H HK HI ha (by omega) ⟨by omega,by omega⟩).mono ?_;clear H HK;rintro e1 w1 ⟨r1,a1,l1,rfl,HR1,br1,HA1,ba1,HK,H⟩;have d5:((r1:Int)==0)=false:=by have h8:=HR1.out;have h9:=h5n.out;rw[h8] at h9;simpa using h9
 go_wp2_with fail
 refine(a0s ((nl:Int)) H HK HI ba1 (by omega) ⟨by omega,by omega⟩).mono ?_;clear H HK;rintro e2 w2 ⟨r2,a2,l2,rfl,HR2,br2,HA2,ba2,HK,H⟩;obtain rfl:r2=q:=by have h8:=HR2.out;have h9:=HQ0.out;rw[HA1.out,h8] at h9;omega
 obtain⟨la,Bs,ms,cap,hAl,hmc,hst⟩:=HLK.out.2.2 r2 s HS0;subst hAl;have HST:=Hd hst;obtain⟨hlb,hcl,hIs⟩:=hst w2 a2 l2 HK H.rest_;have HSL:=Hd hIs.len;have hmsl:=hIs.le;have hr2:r2<nl:=by omega
 clear hst hIs hlb
 go_wp2_with fail
 clear hcl;refine(a0s (12) H HK HI ba2 (by omega) ⟨by omega,by omega⟩).mono ?_;clear H HK;rintro e3 w3 ⟨r3,a3,l3,rfl,HR3,br3,HA3,ba3,HK,H⟩;obtain rfl:r3=11:=by have h8:=HR3.out;have h9:=HK0.out;rw[HA1.out,HA2.out,h8] at h9;omega
 obtain rfl:a3=b:=by have h8:=HA3.out;have h9:=HB0.out;rw[HA1.out,HA2.out,h8] at h9;exact h9
 clear HR1 HR2 HR3 HQ0 HB0 HK0 h5n d5 dn;by_cases h0:ms=0
 ·subst h0;replace H:=Hd (H.litP 3 #[.int .i64 ((r2:Int))] [((r2:Int))] 1 rfl (by first|(simp[a1d];done)|(simp[a1d];omega)));have HX:=Hd (show KS=(ndV 4 [(r2:Int)] [] [] 0 0,a3) by rw[←HKS.out,b9d,iP HSL.out]);obtain⟨rc0,rc1,rc2,rc3,rc4,rc5,rc6⟩:=H.cells7 4 rfl;obtain⟨fr0,fr1,fr2,fr3,fr4,fr5,fr6⟩:=H.f7 4 rfl;have HF:=Hd (H.set7 4 rfl (.int .i64 4) (.slice (some ⟨w3.heap.size,0,none⟩) 1 1) (.slice none 0 0) (.slice none 0 0) (.int .i64 0) (.int .i64 0) (.string ⟨#[]⟩));go_wp2;refine a0y HF 4 rfl results17 rfl rfl ?_;rw[HX.out];exact⟨_,_,_,_,_,_,rfl,_,HK,Sep.pick HF [0,1,2] rfl (by decide)⟩
 ·have d0:((ms:Int)==0)=false:=by simp;omega
  replace H:=Hd (H.litP 3 #[.int .i64 ((r2:Int))] [((r2:Int))] 1 rfl (by first|(simp[a1d];done)|(simp[a1d];omega)))
  go_wp2_with fail
  refine(a0s ((ms:Int)) H HK HI ba3 (by omega) ⟨by omega,by omega⟩).mono ?_;clear H HK;rintro e4 w4 ⟨r4,a4,l4,rfl,HR4,br4,HA4,ba4,HK,H⟩
  go_wp2_with fail
  refine(a0s (3) H HK HI ba4 (by omega) ⟨by omega,by omega⟩).mono ?_;clear H HK;rintro e5 w5 ⟨r5,a5,l5,rfl,HR5,br5,HA5,ba5,HK,H⟩
  go_wp2_with fail
  refine(a0s (2) H HK HI ba5 (by omega) ⟨by omega,by omega⟩).mono ?_;clear H HK;rintro e6 w6 ⟨r6,a6,l6,rfl,HR6,br6,HA6,ba6,HK,H⟩;replace H:=Hd (H.litP 3 #[.int .i64 ((r4:Int)),.int .i64 (1+(r5:Int)),.int .i64 (1+(r6:Int))] [((r4:Int)),(1+(r5:Int)),(1+(r6:Int))] 3 rfl (by first|(simp[a1d];done)|(simp[a1d];omega)))
  go_wp2_with fail
  refine(a0s (4) H HK HI ba6 (by omega) ⟨by omega,by omega⟩).mono ?_;clear H HK;rintro e7 w7 ⟨r7,a7,l7,rfl,HR7,br7,HA7,ba7,HK,H⟩;have HX:=Hd (show KS=(ndV 20 [(r2:Int)] [] [(r4:Int),1+(r5:Int),1+(r6:Int)] 0 (1+(r7:Int)),a7) by rw[←HKS.out,b9d,iN (by have h8:=HSL.out;omega),HSL.out,HR4.out,HA4.out,HR5.out,HA5.out,HR6.out,HA6.out,HR7.out,HA7.out]);obtain⟨rc0,rc1,rc2,rc3,rc4,rc5,rc6⟩:=H.cells7 5 rfl;obtain⟨fr0,fr1,fr2,fr3,fr4,fr5,fr6⟩:=H.f7 5 rfl;have HF:=Hd (H.set7 5 rfl (.int .i64 20) (.slice (some ⟨w3.heap.size,0,none⟩) 1 1) (.slice none 0 0) (.slice (some ⟨w6.heap.size,0,none⟩) 3 3) (.int .i64 0) (.int .i64 (1+(r7:Int))) (.string ⟨#[]⟩));go_wp2;refine a0y HF 5 rfl results17 rfl rfl ?_;rw[HX.out];exact⟨_,_,_,_,_,_,rfl,_,HK,Sep.pick HF [1,2,0] rfl (by decide)⟩
end Go.Proofs.YtajhdeddgdhccaaGreatDoor
