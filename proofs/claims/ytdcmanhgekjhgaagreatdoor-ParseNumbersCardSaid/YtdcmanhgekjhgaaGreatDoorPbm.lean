import Derived.Test.YtdcmanhgekjhgaaGreatDoorPbl
set_option maxRecDepth 100000
set_option maxHeartbeats 12800000
namespace Go.Proofs.YtdcmanhgekjhgaaGreatDoor
open Go.RowKit Go.Proofs.Tryz
variable {A Al:Option Addr} {L:List (List Int)} {a c cl g i n nl:Nat} {l:List a0e} {w w0 w1:World} {xs:List Int}
theorem a3d (s:ByteArray)(hs:s.size≤9223372036854775807)(hT:Tabs w):
  Calls prog 9 #[.string s] w fun e w'=>e=.returned (.bool true)∧Below w.heap.size w w':=by
 have C1:=Hd (b1l (w:=w) s hs hT);have C2:=Hd (fun w:World=>c0m w s hs);obtain⟨⟨G,e⟩,hR⟩:∃ r,a2r s=r:=⟨_,rfl⟩;rw[hR] at C1 C2;clear hR hT
 go_enter func9,ntmps9
 go_wp2_with fail
 refine C1.mono ?_;rintro e1 w1 ⟨v1,rfl,hG1,_,hb1⟩;have HG1:=Hd hG1;obtain⟨A1,na1,ca1,B1,nb1,cb1,D1,nc1,cc1,rfl,_⟩:=hG1;have HB:=Hd hb1;clear hb1 C1;have h2:=(Sep.nil w1).allocBox w1.heap.size 28 [.slice A1 na1 ca1,.string G.names,.slice B1 nb1 cb1,.slice D1 nc1 cc1] rfl
 go_upto_region 2 with fail
 generalize w1.alloc (.cells #[.slice A1 na1 ca1,.string G.names,.slice B1 nb1 cb1,.slice D1 nc1 cc1] 28)=w2 at *;have H:=Hd h2;clear h2
 go_wp2_with fail
 refine(C2 w2).mono ?_;rintro e2 w3 ⟨v2,rfl,hG2,_,hb2⟩;have HG2:=Hd hG2;obtain⟨A2,na2,ca2,B2,nb2,cb2,D2,nc2,cc2,rfl,_⟩:=hG2;replace H:=Hd (H.below hb2);have h4:=H.allocBox w3.heap.size 28 [.slice A2 na2 ca2,.string G.names,.slice B2 nb2 cb2,.slice D2 nc2 cc2] rfl;have hb4:Below w3.heap.size w3 (w3.alloc (.cells #[.slice A2 na2 ca2,.string G.names,.slice B2 nb2 cb2,.slice D2 nc2 cc2] 28)):=(Below.refl _ _).alloc (Nat.le_refl _) _;clear hb2 C2
 go_upto_region 3 with fail
 generalize w3.alloc (.cells #[.slice A2 na2 ca2,.string G.names,.slice B2 nb2 cb2,.slice D2 nc2 cc2] 28)=w4 at *;replace H:=Hd h4;replace HG2:=Hd (HG2.below hb4);replace HG1:=Hd (HG1.below H.base);clear h4 hb4;obtain⟨g0,g1,g2,g3⟩:=H.cells4 0 rfl;obtain⟨k0,k1,k2,k3⟩:=H.cells4 1 rfl;have CS:=Hd (b5s HG1 HG2)
 go_wp2_with fail
 refine CS.mono ?_;rintro e5 w5 ⟨rfl,hb5⟩;have HB5:=Hd (a1c HB (a1c H.base hb5));clear hb5;go_wp2;go_ret;exact⟨rfl,HB5⟩
theorem a9y (s:ByteArray)(hs:s.size≤90000)(hT:Tabs w):
  Calls prog 10 #[.string s] w fun e w'=>e=.returned (.bool true)∧Below w.heap.size w w':=by
 have HT:=Hd hT;have C1:=Hd (b4t w s hs);have C2:=Hd (fun w:World=>a6b w s hs);have C3:=Hd (fun (w' : World) (hb:Below w.heap.size w w')=>a7e s hs (HT.below hb));have C4:=Hd (fun w:World=>a8h w s hs);have HWS:=Hd (a4c hs);have HWL:=Hd (a4g s);obtain⟨L,hL⟩:∃ L,a0u s=L:=⟨_,rfl⟩;obtain⟨⟨x,b⟩,hV⟩:∃ r,a0t s=r:=⟨_,rfl⟩;rw[hL] at C1 C2 HWS HWL;rw[hV] at C3 C4;clear hL hV hT
 go_enter func10,ntmps10
 go_wp2_with fail
 refine C1.mono ?_;rintro e1 w1 ⟨A1,n1,c1,K1,rfl,hc1,hS1,hb1⟩;have HS1:=Hd hS1;have HB:=Hd hb1;clear C1 hS1 hb1
 go_wp2_with fail
 refine(C2 w1).mono ?_;rintro e2 w2 ⟨v,rfl,hP⟩;obtain⟨A2,c2,K2,rfl,hc2,hS2,hb2,_⟩:=hP.strs HWS (by have:=HWL.out;omega);have HS2:=Hd hS2;replace HS1:=Hd (HS1.below hb2);replace HB:=Hd (a1c HB hb2);have hn:n1=L.length:=HS1.out.1.symm;clear C2 hS2 hb2 hP;subst hn
 go_wp2_with fail
 refine(C3 w2 HB).mono ?_;rintro e3 w3 ⟨rfl,hb3⟩;replace HS1:=Hd (HS1.below hb3);replace HS2:=Hd (HS2.below hb3);replace HB:=Hd (a1c HB hb3);clear C3 hb3
 go_wp2_with fail
 refine(C4 w3).mono ?_;rintro e4 w4 ⟨rfl,rfl⟩;clear C4;obtain⟨n,hn⟩:∃ n,L.length=n:=⟨_,rfl⟩;rw[hn] at HS1 HS2 hc1 hc2 ⊢;have HN:=Hd hn;have hn9:n≤90001:=HS1.out.2.1;clear hn
 go_wp2_with fail
 go_loopw [41] (fun iv wr=>∃ k:Nat,k≤n∧iv=.int .i64 k∧Below w4.heap.size w4 wr) (fun iv _=>n-(intOf iv).toNat)
 case atStart=>exact⟨0,Nat.zero_le _,rfl,Below.refl _ _⟩
 case round =>
  obtain⟨k,hk,rfl,hbr⟩:=hrel;have HBR:=Hd hbr;clear hbr;by_cases hlt:k<n
  ·obtain⟨y,hy⟩:∃ y,L[k]?=some y:=gE (by rw[HN.out];exact hlt);obtain⟨a1,hA1,p1,k1,q1⟩:=(HS1.below HBR).2.2.2 k y hy;obtain⟨a2,hA2,p2,k2,q2⟩:=(HS2.below HBR).2.2.2 k y hy;subst hA1 hA2;have e0:(y.toList==y.toList)=true:=by simp
   clear q1 q2 p1 p2 hy
   go_wp2_with fail
   go_quiet (fail)
   go_wp2;go_roundw
   case rel=>exact⟨k+1,by omega,by go_num,a1h HBR _⟩
   case measure=>simp[intOf];omega
  ·have hkn:k=n:=by omega
   subst hkn;go_wp2;go_ret;exact⟨rfl,a1c HB HBR⟩
theorem d8h {k:Nat}(h:Ints w1 A n xs)(hk:k≤n)(hc:n≤c):∀ w,(Instr.slice 25 (.slice A n c) none (some (.int .i64 (k:Int))) none).run prog w=.ok (.slice A k c) w:=by
 intro w;have hu:prog.underlying 25=some (.slice 3):=by kernel_rfl
 have hkc:k≤c:=by omega
 cases A with
 | none =>
  have h0:n=0:=by
   rcases Nat.eq_zero_or_pos n with e|e
   ·exact e
   ·obtain⟨a,e', _⟩:=h.2.2.2 e;cases e'
  subst h0;obtain rfl:k=0:=by omega
  go_simp
 | some a=>go_simp
theorem c2b {base:Nat}{e:TypeId}(h:OwnS w1 base e (.slice A n c) n xs)(hk:3≤n):∀ w,(Instr.slice 25 (.slice A n c) none (some (.int .i64 3)) none).run prog w=.ok (.slice A 3 c) w:=by
 obtain⟨A', c', hv,hnc,hI,_⟩:=h.form;injection hv with h1 _ h3
 subst h1;subst h3;exact d8h (k:=3) hI hk hnc
theorem d7k (hnl:nl=0)(H:Sep w0 w l)(hi:l[i]?=some (TB g A n c a))(hI:Ints w0 A n xs)(ha:a≤n)(hL:a6v w0 l i g A n c Al nl L):
  Calls prog 24 #[.pointer (some ⟨g,0,none⟩),.slice Al nl cl] w (a3g w0 l i g A n c (kSrc xs a)):=by
 obtain⟨KS,hKS⟩:∃ q,kSrc xs a=q:=⟨_,rfl⟩;rw[hKS];have HKS:=Hd hKS;clear hKS;have HXL:=Hd hI.len;have HI:=Hd hI;have hnle:=hI.le;have hll:=hL.1;have hln:=hL.2.1;have HLL:=Hd hll;have HLK:=Hd hL;have HK:Hid (KT l i (TB g A n c a) l):=Hd ⟨hi,fun _=>rfl⟩;clear hll;have h1:=(((H.allocBox w.heap.size 49 zN rfl).addNil 3).addNil 3).addNil 3
 go_enter func24,ntmps24
 go_upto_region 1 with fail
 generalize w.alloc (.cells zA 49)=W at *;generalize w.heap.size=gr at *;clear H hi hI hL;have H:Hid (Sep w0 W ([oN,oN,oN,.box gr 49 zN]++l)):=Hd h1;clear h1;subst hnl
 go_wp2_with fail
 refine(a0x (4) H HK HI ha (by omega) ⟨by omega,by omega⟩).mono ?_;clear H HK;rintro e1 w1 ⟨r1,a1,l1,rfl,HR1,br1,HA1,ba1,HK,H⟩;have HKT:=Hd (show kSrc xs a=KS by exact HKS);by_cases q0:r1=0
 ·subst q0
  go_wp2_with fail
  refine(b4x H HK HI ba1).mono ?_;rintro e2 w2 ⟨v2,m2,rfl,l2,hK,hS⟩;obtain⟨ba2,bs2⟩:=a7b HXL ba1;obtain⟨⟨s2,a2⟩,hx⟩:∃ q,a2q xs a1=q:=⟨_,rfl⟩;rw[hx] at ba2 bs2 hK hS;have HS2:=Hd hx;replace HK:=Hd hK;obtain⟨A2,c2,hv,hmc2,_,_⟩:=(hS.ownS 0 rfl).form;subst hv;simp only at ba2 bs2;have HM2:=Hd (hS.ownS 0 rfl).len;have bm2:m2≤3:=by have h8:s2.length=m2:=HM2.out;omega
  replace H:Hid (Sep w0 w2 ([.own 3 (.slice A2 m2 c2) m2 s2,oN,oN,oN,.box gr 49 zN]++l2)):=Hd hS;clear hx hK hS
  go_wp2_with fail
  refine(c3i H HK HI ba2).mono ?_;rintro e3 w3 ⟨rfl,l3,hK,hS⟩;have ba3:=b7x HXL ba2;have hfN:=a9v xs a2;obtain⟨⟨x3,a3⟩,hx⟩:∃ q,kNum xs a2=q:=⟨_,rfl⟩;rw[hx] at ba3 hK hfN ⊢;have HN3:=Hd hx;replace HK:=Hd hK;have HF3:=Hd hfN;replace H:Hid (Sep w0 w3 ([.own 3 (.slice A2 m2 c2) m2 s2,oN,oN,oN,.box gr 49 zN]++l3)):=Hd hS;clear hx hK hS hfN;simp only at ba3;have HX:=Hd (show KS=(ndV 2 [] s2 [] x3 0,a3) by rw[←HKT.out,kSrc,HR1.out,iP (by omega),HA1.out,HS2.out,HN3.out]);obtain⟨rc0,rc1,rc2,rc3,rc4,rc5,rc6⟩:=H.cells7 4 rfl;obtain⟨fr0,fr1,fr2,fr3,fr4,fr5,fr6⟩:=H.f7 4 rfl;have HF:=Hd (H.set7 4 rfl (.int .i64 2) (.slice none 0 0) (.slice A2 m2 c2) (.slice none 0 0) (.int .i64 x3) (.int .i64 0) (.string ⟨#[]⟩));go_wp2;refine a1g HF 4 rfl results24 rfl rfl ?_;rw[HX.out];exact⟨_,_,_,_,_,_,rfl,_,HK,Sep.pick HF [1,0,2] rfl (by decide)⟩
 have d0:((r1:Int)==0)=false:=by simp;omega
 by_cases q1:r1=1
 ·subst q1;replace H:=Hd (H.litP 3 #[.int .i64 (3)] [(3)] 1 rfl (by first|(simp[a1e];done)|(simp[a1e];omega)))
  go_wp2_with fail
  refine(b4x H HK HI ba1).mono ?_;rintro e2 w2 ⟨v2,m2,rfl,l2,hK,hS⟩;obtain⟨ba2,bs2⟩:=a7b HXL ba1;obtain⟨⟨s2,a2⟩,hx⟩:∃ q,a2q xs a1=q:=⟨_,rfl⟩;rw[hx] at ba2 bs2 hK hS;have HS2:=Hd hx;replace HK:=Hd hK;obtain⟨A2,c2,hv,hmc2,_,_⟩:=(hS.ownS 0 rfl).form;subst hv;simp only at ba2 bs2;have HM2:=Hd (hS.ownS 0 rfl).len;have bm2:m2≤3:=by have h8:s2.length=m2:=HM2.out;omega
  replace H:Hid (Sep w0 w2 ([.own 3 (.slice A2 m2 c2) m2 s2,.own 3 (.slice (some ⟨w1.heap.size,0,none⟩) 1 1) 1 [(3)],oN,oN,oN,.box gr 49 zN]++l2)):=Hd hS;clear hx hK hS
  go_wp2_with (at_builtin;refine a0g rfl (.tmp 47) (.tmp 49) 25 3 rfl underlying25 Tryz.infoInt H.out 1 rfl rfl A2 m2 c2 s2 rfl ((H.out.ownInts 0 rfl).2.2) ?c1 ?_)
  case c1=>omega
  intro v9 w9 h9;replace H:Hid (Sep w0 w9 ([.own 3 (.slice A2 m2 c2) m2 s2,.own 3 v9 (1+m2) ((3:Int)::s2),oN,oN,oN,.box gr 49 zN]++l2)):=Hd h9;clear h9;obtain⟨A9,c9,hv,hmc9,_,_⟩:=(H.ownS 1 rfl).form;subst hv;by_cases q3:m2=3
  ·obtain⟨Z,hZ⟩:∃ Z,((3:Int)::s2).take 3=Z:=⟨_,rfl⟩;have HTK:=Hd hZ;have HTL:=Hd (show(Z.length:Int)=3 by have h8:s2.length=m2:=HM2.out;rw[←hZ,List.length_take,List.length_cons];omega);have d3:decide ((3:Int)<((1+m2:Nat):Int))=true:=by simp;omega
   have d4:decide (3<1+m2)=true:=by simp;omega
   have hk3:3≤1+m2:=by omega
   have hsl:=c2b (H.ownS 1 rfl) hk3;have h9:=H.takeOwn 1 rfl hk3 (by omega);rw[hZ] at h9;clear hZ;replace H:Hid (Sep w0 w9 ([.own 3 (.slice A2 m2 c2) m2 s2,.own 3 (.slice A9 3 c9) 3 Z,oN,oN,oN,.box gr 49 zN]++l2)):=Hd h9;clear h9
   go_wp2_with fail
   refine(a0x ((3:Int)) H HK HI ba2 (by omega) ⟨by omega,by omega⟩).mono ?_;clear H HK;rintro e3 w3 ⟨r3,a3,l3,rfl,HR3,br3,HA3,ba3,HK,H⟩;replace H:=Hd (H.litP 3 #[.int .i64 ((r3:Int))] [((r3:Int))] 1 rfl (by first|(simp[a1e];done)|(simp[a1e];omega)));have HX:=Hd (show KS=(ndV 3 [] (Z) [(r3:Int)] 0 0,a3) by rw[←HKT.out,kSrc,HR1.out,iN (by omega),iP (by omega),HA1.out,HS2.out,HTK.out,HTL.out,HR3.out,HA3.out]);obtain⟨rc0,rc1,rc2,rc3,rc4,rc5,rc6⟩:=H.cells7 6 rfl;obtain⟨fr0,fr1,fr2,fr3,fr4,fr5,fr6⟩:=H.f7 6 rfl;have HF:=Hd (H.set7 6 rfl (.int .i64 3) (.slice none 0 0) (.slice A9 (3) c9) (.slice (some ⟨w3.heap.size,0,none⟩) 1 1) (.int .i64 0) (.int .i64 0) (.string ⟨#[]⟩));go_wp2;refine a1g HF 6 rfl results24 rfl rfl ?_;rw[HX.out];exact⟨_,_,_,_,_,_,rfl,_,HK,Sep.pick HF [3,2,0] rfl (by decide)⟩
  ·have HTK:=Hd (show((3:Int)::s2).take 3=(3:Int)::s2 by have h8:s2.length=m2:=HM2.out;exact List.take_of_length_le (by rw[List.length_cons];omega));have HTL:=Hd (show((((3:Int)::s2).length:Nat):Int)=(1:Int)+(m2:Int) by have h8:s2.length=m2:=HM2.out;rw[List.length_cons];omega);have d3:decide ((3:Int)<((1+m2:Nat):Int))=false:=by simp;omega
   have d4:decide (3<1+m2)=false:=by simp;omega
   go_wp2_with fail
   refine(a0x ((1+m2:Int)) H HK HI ba2 (by omega) ⟨by omega,by omega⟩).mono ?_;clear H HK;rintro e3 w3 ⟨r3,a3,l3,rfl,HR3,br3,HA3,ba3,HK,H⟩;replace H:=Hd (H.litP 3 #[.int .i64 ((r3:Int))] [((r3:Int))] 1 rfl (by first|(simp[a1e];done)|(simp[a1e];omega)));have HX:=Hd (show KS=(ndV 3 [] ((3:Int)::s2) [(r3:Int)] 0 0,a3) by rw[←HKT.out,kSrc,HR1.out,iN (by omega),iP (by omega),HA1.out,HS2.out,HTK.out,HTL.out,HR3.out,HA3.out]);obtain⟨rc0,rc1,rc2,rc3,rc4,rc5,rc6⟩:=H.cells7 6 rfl;obtain⟨fr0,fr1,fr2,fr3,fr4,fr5,fr6⟩:=H.f7 6 rfl;have HF:=Hd (H.set7 6 rfl (.int .i64 3) (.slice none 0 0) (.slice A9 (1+m2) c9) (.slice (some ⟨w3.heap.size,0,none⟩) 1 1) (.int .i64 0) (.int .i64 0) (.string ⟨#[]⟩));go_wp2;refine a1g HF 6 rfl results24 rfl rfl ?_;rw[HX.out];exact⟨_,_,_,_,_,_,rfl,_,HK,Sep.pick HF [3,2,0] rfl (by decide)⟩
 ·have d1:((r1:Int)==1)=false:=by simp;omega
  go_wp2_with fail
  refine(b4x H HK HI ba1).mono ?_;rintro e2 w2 ⟨v2,m2,rfl,l2,hK,hS⟩;obtain⟨ba2,bs2⟩:=a7b HXL ba1;obtain⟨⟨s2,a2⟩,hx⟩:∃ q,a2q xs a1=q:=⟨_,rfl⟩;rw[hx] at ba2 bs2 hK hS;have HS2:=Hd hx;replace HK:=Hd hK;obtain⟨A2,c2,hv,hmc2,_,_⟩:=(hS.ownS 0 rfl).form;subst hv;simp only at ba2 bs2;have HM2:=Hd (hS.ownS 0 rfl).len;have bm2:m2≤3:=by have h8:s2.length=m2:=HM2.out;omega
  replace H:Hid (Sep w0 w2 ([.own 3 (.slice A2 m2 c2) m2 s2,oN,oN,oN,.box gr 49 zN]++l2)):=Hd hS;clear hx hK hS;have HX:=Hd (show KS=(ndV 1 [] s2 [] 0 0,a2) by rw[←HKT.out,kSrc,HR1.out,iN (by omega),iN (by omega),HA1.out,HS2.out]);obtain⟨rc0,rc1,rc2,rc3,rc4,rc5,rc6⟩:=H.cells7 4 rfl;obtain⟨fr0,fr1,fr2,fr3,fr4,fr5,fr6⟩:=H.f7 4 rfl;have HF:=Hd (H.set7 4 rfl (.int .i64 1) (.slice none 0 0) (.slice A2 m2 c2) (.slice none 0 0) (.int .i64 0) (.int .i64 0) (.string ⟨#[]⟩));go_wp2;refine a1g HF 4 rfl results24 rfl rfl ?_;rw[HX.out];exact⟨_,_,_,_,_,_,rfl,_,HK,Sep.pick HF [1,0,2] rfl (by decide)⟩
theorem d7l (hnl:0<nl)(h5:tv xs a 5=0)(H:Sep w0 w l)(hi:l[i]?=some (TB g A n c a))(hI:Ints w0 A n xs)(ha:a≤n)(hL:a6v w0 l i g A n c Al nl L):
  Calls prog 24 #[.pointer (some ⟨g,0,none⟩),.slice Al nl cl] w (a3g w0 l i g A n c (kSrc xs (ta xs a 5))):=by
 obtain⟨KS,hKS⟩:∃ q,kSrc xs (ta xs a 5)=q:=⟨_,rfl⟩;rw[hKS];have HKS:=Hd hKS;clear hKS;have HXL:=Hd hI.len;have HI:=Hd hI;have hnle:=hI.le;have hll:=hL.1;have hln:=hL.2.1;have HLL:=Hd hll;have HLK:=Hd hL;have HK:Hid (KT l i (TB g A n c a) l):=Hd ⟨hi,fun _=>rfl⟩;clear hll;have h1:=(((H.allocBox w.heap.size 49 zN rfl).addNil 3).addNil 3).addNil 3
 go_enter func24,ntmps24
 go_upto_region 1 with fail
 generalize w.alloc (.cells zA 49)=W at *;generalize w.heap.size=gr at *;clear H hi hI hL;have H:Hid (Sep w0 W ([oN,oN,oN,.box gr 49 zN]++l)):=Hd h1;clear h1;have dn:((nl:Int)==0)=false:=by simp;omega
 go_wp2_with fail
 refine(a0x (5) H HK HI ha (by omega) ⟨by omega,by omega⟩).mono ?_;clear H HK;rintro e1 w1 ⟨r1,a1,l1,rfl,HR1,br1,HA1,ba1,HK,H⟩;obtain rfl:r1=0:=by have h8:=HR1.out;rw[h5] at h8;omega
 go_wp2_with fail
 refine(a0x (4) H HK HI ba1 (by omega) ⟨by omega,by omega⟩).mono ?_;clear H HK;rintro e2 w2 ⟨r2,a2,l2,rfl,HR2,br2,HA2,ba2,HK,H⟩;have HKT:=Hd (show kSrc xs a1=KS by rw[←HA1.out];exact HKS);by_cases q0:r2=0
 ·subst q0
  go_wp2_with fail
  refine(b4x H HK HI ba2).mono ?_;rintro e3 w3 ⟨v3,m3,rfl,l3,hK,hS⟩;obtain⟨ba3,bs3⟩:=a7b HXL ba2;obtain⟨⟨s3,a3⟩,hx⟩:∃ q,a2q xs a2=q:=⟨_,rfl⟩;rw[hx] at ba3 bs3 hK hS;have HS3:=Hd hx;replace HK:=Hd hK;obtain⟨A3,c3,hv,hmc3,_,_⟩:=(hS.ownS 0 rfl).form;subst hv;simp only at ba3 bs3;have HM3:=Hd (hS.ownS 0 rfl).len;have bm3:m3≤3:=by have h8:s3.length=m3:=HM3.out;omega
  replace H:Hid (Sep w0 w3 ([.own 3 (.slice A3 m3 c3) m3 s3,oN,oN,oN,.box gr 49 zN]++l3)):=Hd hS;clear hx hK hS
  go_wp2_with fail
  refine(c3i H HK HI ba3).mono ?_;rintro e4 w4 ⟨rfl,l4,hK,hS⟩;have ba4:=b7x HXL ba3;have hfN:=a9v xs a3;obtain⟨⟨x4,a4⟩,hx⟩:∃ q,kNum xs a3=q:=⟨_,rfl⟩;rw[hx] at ba4 hK hfN ⊢;have HN4:=Hd hx;replace HK:=Hd hK;have HF4:=Hd hfN;replace H:Hid (Sep w0 w4 ([.own 3 (.slice A3 m3 c3) m3 s3,oN,oN,oN,.box gr 49 zN]++l4)):=Hd hS;clear hx hK hS hfN;simp only at ba4;have HX:=Hd (show KS=(ndV 2 [] s3 [] x4 0,a4) by rw[←HKT.out,kSrc,HR2.out,iP (by omega),HA2.out,HS3.out,HN4.out]);obtain⟨rc0,rc1,rc2,rc3,rc4,rc5,rc6⟩:=H.cells7 4 rfl;obtain⟨fr0,fr1,fr2,fr3,fr4,fr5,fr6⟩:=H.f7 4 rfl;have HF:=Hd (H.set7 4 rfl (.int .i64 2) (.slice none 0 0) (.slice A3 m3 c3) (.slice none 0 0) (.int .i64 x4) (.int .i64 0) (.string ⟨#[]⟩));go_wp2;refine a1g HF 4 rfl results24 rfl rfl ?_;rw[HX.out];exact⟨_,_,_,_,_,_,rfl,_,HK,Sep.pick HF [1,0,2] rfl (by decide)⟩
 have d0:((r2:Int)==0)=false:=by simp;omega
 by_cases q1:r2=1
 ·subst q1;replace H:=Hd (H.litP 3 #[.int .i64 (3)] [(3)] 1 rfl (by first|(simp[a1e];done)|(simp[a1e];omega)))
  go_wp2_with fail
  refine(b4x H HK HI ba2).mono ?_;rintro e3 w3 ⟨v3,m3,rfl,l3,hK,hS⟩;obtain⟨ba3,bs3⟩:=a7b HXL ba2;obtain⟨⟨s3,a3⟩,hx⟩:∃ q,a2q xs a2=q:=⟨_,rfl⟩;rw[hx] at ba3 bs3 hK hS;have HS3:=Hd hx;replace HK:=Hd hK;obtain⟨A3,c3,hv,hmc3,_,_⟩:=(hS.ownS 0 rfl).form;subst hv;simp only at ba3 bs3;have HM3:=Hd (hS.ownS 0 rfl).len;have bm3:m3≤3:=by have h8:s3.length=m3:=HM3.out;omega
  replace H:Hid (Sep w0 w3 ([.own 3 (.slice A3 m3 c3) m3 s3,.own 3 (.slice (some ⟨w2.heap.size,0,none⟩) 1 1) 1 [(3)],oN,oN,oN,.box gr 49 zN]++l3)):=Hd hS;clear hx hK hS
  go_wp2_with (at_builtin;refine a0g rfl (.tmp 47) (.tmp 49) 25 3 rfl underlying25 Tryz.infoInt H.out 1 rfl rfl A3 m3 c3 s3 rfl ((H.out.ownInts 0 rfl).2.2) ?c1 ?_)
  case c1=>omega
  intro v9 w9 h9;replace H:Hid (Sep w0 w9 ([.own 3 (.slice A3 m3 c3) m3 s3,.own 3 v9 (1+m3) ((3:Int)::s3),oN,oN,oN,.box gr 49 zN]++l3)):=Hd h9;clear h9;obtain⟨A9,c9,hv,hmc9,_,_⟩:=(H.ownS 1 rfl).form;subst hv;by_cases q3:m3=3
  ·obtain⟨Z,hZ⟩:∃ Z,((3:Int)::s3).take 3=Z:=⟨_,rfl⟩;have HTK:=Hd hZ;have HTL:=Hd (show(Z.length:Int)=3 by have h8:s3.length=m3:=HM3.out;rw[←hZ,List.length_take,List.length_cons];omega);have d3:decide ((3:Int)<((1+m3:Nat):Int))=true:=by simp;omega
   have d4:decide (3<1+m3)=true:=by simp;omega
   have hk3:3≤1+m3:=by omega
   have hsl:=c2b (H.ownS 1 rfl) hk3;have h9:=H.takeOwn 1 rfl hk3 (by omega);rw[hZ] at h9;clear hZ;replace H:Hid (Sep w0 w9 ([.own 3 (.slice A3 m3 c3) m3 s3,.own 3 (.slice A9 3 c9) 3 Z,oN,oN,oN,.box gr 49 zN]++l3)):=Hd h9;clear h9
   go_wp2_with fail
   refine(a0x ((3:Int)) H HK HI ba3 (by omega) ⟨by omega,by omega⟩).mono ?_;clear H HK;rintro e4 w4 ⟨r4,a4,l4,rfl,HR4,br4,HA4,ba4,HK,H⟩;replace H:=Hd (H.litP 3 #[.int .i64 ((r4:Int))] [((r4:Int))] 1 rfl (by first|(simp[a1e];done)|(simp[a1e];omega)));have HX:=Hd (show KS=(ndV 3 [] (Z) [(r4:Int)] 0 0,a4) by rw[←HKT.out,kSrc,HR2.out,iN (by omega),iP (by omega),HA2.out,HS3.out,HTK.out,HTL.out,HR4.out,HA4.out]);obtain⟨rc0,rc1,rc2,rc3,rc4,rc5,rc6⟩:=H.cells7 6 rfl;obtain⟨fr0,fr1,fr2,fr3,fr4,fr5,fr6⟩:=H.f7 6 rfl;have HF:=Hd (H.set7 6 rfl (.int .i64 3) (.slice none 0 0) (.slice A9 (3) c9) (.slice (some ⟨w4.heap.size,0,none⟩) 1 1) (.int .i64 0) (.int .i64 0) (.string ⟨#[]⟩));go_wp2;refine a1g HF 6 rfl results24 rfl rfl ?_;rw[HX.out];exact⟨_,_,_,_,_,_,rfl,_,HK,Sep.pick HF [3,2,0] rfl (by decide)⟩
  ·have HTK:=Hd (show((3:Int)::s3).take 3=(3:Int)::s3 by have h8:s3.length=m3:=HM3.out;exact List.take_of_length_le (by rw[List.length_cons];omega));have HTL:=Hd (show((((3:Int)::s3).length:Nat):Int)=(1:Int)+(m3:Int) by have h8:s3.length=m3:=HM3.out;rw[List.length_cons];omega);have d3:decide ((3:Int)<((1+m3:Nat):Int))=false:=by simp;omega
   have d4:decide (3<1+m3)=false:=by simp;omega
   go_wp2_with fail
   refine(a0x ((1+m3:Int)) H HK HI ba3 (by omega) ⟨by omega,by omega⟩).mono ?_;clear H HK;rintro e4 w4 ⟨r4,a4,l4,rfl,HR4,br4,HA4,ba4,HK,H⟩;replace H:=Hd (H.litP 3 #[.int .i64 ((r4:Int))] [((r4:Int))] 1 rfl (by first|(simp[a1e];done)|(simp[a1e];omega)));have HX:=Hd (show KS=(ndV 3 [] ((3:Int)::s3) [(r4:Int)] 0 0,a4) by rw[←HKT.out,kSrc,HR2.out,iN (by omega),iP (by omega),HA2.out,HS3.out,HTK.out,HTL.out,HR4.out,HA4.out]);obtain⟨rc0,rc1,rc2,rc3,rc4,rc5,rc6⟩:=H.cells7 6 rfl;obtain⟨fr0,fr1,fr2,fr3,fr4,fr5,fr6⟩:=H.f7 6 rfl;have HF:=Hd (H.set7 6 rfl (.int .i64 3) (.slice none 0 0) (.slice A9 (1+m3) c9) (.slice (some ⟨w4.heap.size,0,none⟩) 1 1) (.int .i64 0) (.int .i64 0) (.string ⟨#[]⟩));go_wp2;refine a1g HF 6 rfl results24 rfl rfl ?_;rw[HX.out];exact⟨_,_,_,_,_,_,rfl,_,HK,Sep.pick HF [3,2,0] rfl (by decide)⟩
 ·have d1:((r2:Int)==1)=false:=by simp;omega
  go_wp2_with fail
  refine(b4x H HK HI ba2).mono ?_;rintro e3 w3 ⟨v3,m3,rfl,l3,hK,hS⟩;obtain⟨ba3,bs3⟩:=a7b HXL ba2;obtain⟨⟨s3,a3⟩,hx⟩:∃ q,a2q xs a2=q:=⟨_,rfl⟩;rw[hx] at ba3 bs3 hK hS;have HS3:=Hd hx;replace HK:=Hd hK;obtain⟨A3,c3,hv,hmc3,_,_⟩:=(hS.ownS 0 rfl).form;subst hv;simp only at ba3 bs3;have HM3:=Hd (hS.ownS 0 rfl).len;have bm3:m3≤3:=by have h8:s3.length=m3:=HM3.out;omega
  replace H:Hid (Sep w0 w3 ([.own 3 (.slice A3 m3 c3) m3 s3,oN,oN,oN,.box gr 49 zN]++l3)):=Hd hS;clear hx hK hS;have HX:=Hd (show KS=(ndV 1 [] s3 [] 0 0,a3) by rw[←HKT.out,kSrc,HR2.out,iN (by omega),iN (by omega),HA2.out,HS3.out]);obtain⟨rc0,rc1,rc2,rc3,rc4,rc5,rc6⟩:=H.cells7 4 rfl;obtain⟨fr0,fr1,fr2,fr3,fr4,fr5,fr6⟩:=H.f7 4 rfl;have HF:=Hd (H.set7 4 rfl (.int .i64 1) (.slice none 0 0) (.slice A3 m3 c3) (.slice none 0 0) (.int .i64 0) (.int .i64 0) (.string ⟨#[]⟩));go_wp2;refine a1g HF 4 rfl results24 rfl rfl ?_;rw[HX.out];exact⟨_,_,_,_,_,_,rfl,_,HK,Sep.pick HF [1,0,2] rfl (by decide)⟩
end Go.Proofs.YtdcmanhgekjhgaaGreatDoor
