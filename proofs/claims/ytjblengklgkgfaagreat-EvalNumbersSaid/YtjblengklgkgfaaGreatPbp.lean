import Derived.Test.YtjblengklgkgfaaGreatPbo
set_option maxRecDepth 100000
set_option maxHeartbeats 12800000
namespace Go.Proofs.YtjblengklgkgfaaGreat
open Go.RowKit Go.Proofs.Tryz
variable {A Al:Option Addr} {G:a3n} {L:List (List Int)} {P:TL} {a c cl g i n nl:Nat} {l:List a0c} {w w0 w1:World} {xs:List Int}
theorem d0v {L:TL}(h:a6w G P=(0,L)):a1k L:=by
 obtain⟨h1,h2,rfl⟩:=b5l h;obtain⟨LS,h3,_,_,_⟩:=b1g h1;exact(b4o h3 h2).1
theorem a7n {v:Value}{At:Option Addr}{nt ct:Nat}(h:a2c w v G)(hs:a7y 800 G)(hT:Tens w At nt P)(hct:nt≤ct:=by omega):
  Calls prog 16 #[v,.slice At nt ct] w (a9i w (a7p G P)):=by
 have HG:=h;obtain⟨A,na,ca,B,nb,cb,C,nc,cc,rfl,hL⟩:=h;replace HG:=Hd HG;have h1:=(Sep.nil w).allocBox w.heap.size 25 [.slice A na ca,.string G.names,.slice B nb cb,.slice C nc cc] rfl;have hicc:=hL.ic;have HCI:=Hd hL.inC;have hcle:=hL.inC.le;have HCL:=Hd hL.inC.len;have HTE:=Hd hT;have HSM:=Hd hs;clear hT hs hL
 go_enter func16,ntmps16
 go_upto_region 1 with fail
 generalize w.alloc (.cells #[.slice A na ca,.string G.names,.slice B nb cb,.slice C nc cc] 25)=W at *;have H:=Hd h1;clear h1;obtain⟨g0,g1,g2,g3⟩:=H.cells4 0 rfl;have C1:=c3a (ct:=ct) (HG.below H.base) HSM (HTE.below H.base);obtain⟨⟨e1,L1⟩,he1⟩:∃ r,a6w G P=r:=⟨_,rfl⟩;rw[he1] at C1;have HE1:=Hd he1;clear he1
 go_wp2_with fail
 refine C1.mono ?_;rintro e2 w2 ⟨⟨A1,n1,c1,rfl,hc1,hT1⟩,hb2⟩;replace H:=Hd (H.below hb2);have HT1:Hid (Tens w2 A1 n1 L1):=Hd hT1;clear C1 hb2 g0 g1 g2 g3 hT1;by_cases hz:e1=0
 ·subst hz;have HX:=Hd (c3z HE1);have HIN:=Hd (c1q HE1);have HAR:=Hd (d0v HE1);have hfew:=c6b HE1;have hn48:n1≤48:=by have:=HT1.out.1;omega
  have hc48:nc≤48:=by have:=HCL.out;omega
  have HB2:=Hd H.base;have HC2:=Hd (HCI.below H.base);have g3:=H.c 0 3;have HGB:=Hd (H.blockLt 0 rfl).2;have HG3:=Hd g3;have hmk:=a9j (l:=nc) (c:=nc) (Nat.le_refl _) (by omega);have h2:=(Sep.nil w2).madeRow 33 2 nc nc (tRow nc) (b0n nc) (Nat.le_refl _) (by omega);obtain⟨u0,hu0⟩:∃ u,(tRow nc).toList.take (nc*2)=u:=⟨_,rfl⟩;have HU0:=Hd (show u0.length=nc*2 by rw[←hu0,List.length_take,Array.length_toList,b0n];omega);rw[hu0] at h2;clear hu0 hfew
  go_upto_region 5 with fail
  generalize w2.alloc (.cells (tRow nc) 33)=w5 at *;generalize hgr:w2.heap.size=gr at *;have HGR:=Hd hgr;replace H:=Hd h2;clear h2 hmk g3 hgr;have g3:=H.oC HG3.out (by rw[HGR.out];exact HGB)
  go_wp2_with fail
  clear g3
  go_loopw [27] (fun iv wr=>∃(r:Nat) (us:List Value) (pool:List a0c),iv=.int .i64 r∧r≤nc∧us.length=nc*2∧b0f w2 (us.take (r*2)) (insT L1 (G.outs.take r)) pool∧Sep w2 wr (.row 33 2 (.slice (some ⟨gr,0,none⟩) nc nc) nc us::pool)) (fun iv _=>nc-(intOf iv).toNat)
  case atStart=>exact⟨0,u0,[],rfl,by omega,HU0,by rw[Nat.zero_mul,List.take_zero,List.take_zero];exact a9b _ _,H⟩
  case round =>
   clear H;obtain⟨r,us,pool,rfl,hr,hul,hP,hS⟩:=hrel;have H:=Hd hS;have HP:=Hd hP;have HUL:=Hd hul;clear hS hP hul;by_cases hlr:r<nc
   ·obtain⟨sa,x,hsA,_,hx,hcx,_⟩:=(H.oldI HC2).at_ (k:=r) hlr;subst hsA;have hxi:=HIN.out x (mG hx);obtain⟨xx,rfl⟩:=eZ hxi.1;have hxj:xx<n1:=by have:=HT1.out.1;omega
    have hxj2:(xx:Int)<n1:=by omega
    obtain⟨t,ht⟩:∃ t,L1[xx]?=some t:=gE (by have:=HT1.out.1;omega);obtain⟨ta,S5,sn5,sc5,D5,dn5,dc5,hta,htb,t0,t1,hTj⟩:=HT1.out.2.2 xx t ht;subst hta;have htr:=HAR.out t (mG ht);have y0:=H.oC t0 (a1i htb);have y1:=H.oC t1 (a1i htb);have CC:=c4w (H.oldTen hTj) (c3w hTj htr).1 (c3w hTj htr).2;have HINS:=Hd (show insT L1 (G.outs.take (r+1))=insT L1 (G.outs.take r)++[t] from b5a hx ht);clear hx ht t0 t1 hTj hxi htb htr
    go_wp2_with fail
    refine CC.mono ?_;rintro e7 w7 ⟨⟨u7,rfl,hu7⟩,hb7⟩;obtain⟨S1,m1,sc,D1,n9,dc,rfl,hs1,hd1,hsc,hdc,hNle,h5⟩:=H.addTen hb7 hu7;replace H:=Hd h5;clear CC y0 y1 hcx hu7 hb7 hs1 hd1 h5;obtain⟨u70,hu0⟩:∃ u,us[r*2]?=some u:=gE (by have:=HUL.out;omega);obtain⟨u71,hu1⟩:∃ u,us[r*2+1]?=some u:=gE (by have:=HUL.out;omega);have z0:w7.cell? ⟨gr,r*2,none⟩=some u70:=H.cellRow 2 rfl hu0;have z1:w7.cell? ⟨gr,r*2+1,none⟩=some u71:=H.cellRow 2 rfl hu1;have fz0:w7.frozen? ⟨gr,r*2,none⟩=false:=H.frozenRow 2 rfl (r*2);have fz1:w7.frozen? ⟨gr,r*2+1,none⟩=false:=H.frozenRow 2 rfl (r*2+1);have hst:=(H.setRow 2 rfl (r*2) (.slice S1 m1 sc)).setRow 2 rfl (r*2+1) (.slice D1 n9 dc);have HST:=Hd (Sep.perm (show Sep w2 _ (a0c.own 3 (.slice S1 m1 sc) m1 t.1::a0c.own 2 (.slice D1 n9 dc) n9 t.2::.row 33 2 (.slice (some ⟨gr,0,none⟩) nc nc) nc ((us.set (r*2) (.slice S1 m1 sc)).set (r*2+1) (.slice D1 n9 dc))::pool) from hst) (l':=[.row 33 2 (.slice (some ⟨gr,0,none⟩) nc nc) nc ((us.set (r*2) (.slice S1 m1 sc)).set (r*2+1) (.slice D1 n9 dc))]++([a0c.own 3 (.slice S1 m1 sc) m1 t.1,a0c.own 2 (.slice D1 n9 dc) n9 t.2]++pool)) (by rw[←List.append_assoc];exact(List.perm_append_comm (l₁:=[a0c.own 3 (.slice S1 m1 sc) m1 t.1,a0c.own 2 (.slice D1 n9 dc) n9 t.2]) (l₂:=[_])).append_right pool))
    have HPN:=Hd (show b0f w2 (((us.set (r*2) (.slice S1 m1 sc)).set (r*2+1) (.slice D1 n9 dc)).take ((r+1)*2)) (insT L1 (G.outs.take (r+1))) (a0c.own 3 (.slice S1 m1 sc) m1 t.1::a0c.own 2 (.slice D1 n9 dc) n9 t.2::pool) by
     rw[show(r+1)*2=r*2+2 by omega,c4k (by have:=HUL.out;omega),HINS.out];exact HP.up.snoc b5n.top)
    clear hst hu0 hu1;go_wp2;go_roundw
    case rel=>exact⟨r+1,_,_,by go_num,by omega,by rw[List.length_set,List.length_set];exact HUL,HPN,HST⟩
    case measure=>simp[intOf];omega
   ·obtain rfl:r=nc:=by omega
    have hP3:=HP.out;rw[List.take_of_length_le (by have:=HUL.out;omega),List.take_of_length_le (by have:=HCL.out;omega)] at hP3;obtain⟨A9,c9,hv,_,hT9⟩:=a6h 0 H rfl hP3 (by rw[insT,List.length_map];exact HCL) (by omega) 1 (fun k=>rfl);injection hv with hv1 hv2 hv3
    subst hv1;clear hv2 hv3;have HT9:=Hd hT9;clear hT9 hP3;go_wp2;go_ret2;exact a8c HX (Nat.le_refl _) HT9 (a1m HB2 H.base)
 ·have dz:(e1 != 0)=true:=by simpa using hz
  have HX:=Hd (c9k HE1 hz);clear hz;go_wp2;go_ret2;exact a4m HX H.base
theorem d4e {k:Nat}(h:Ints w1 A n xs)(hk:k≤n)(hc:n≤c):∀ w,(Instr.slice 22 (.slice A n c) none (some (.int .i64 (k:Int))) none).run prog w=.ok (.slice A k c) w:=by
 intro w;have hu:prog.underlying 22=some (.slice 3):=by kernel_rfl
 have hkc:k≤c:=by omega
 cases A with
 | none =>
  have h0:n=0:=by
   rcases Nat.eq_zero_or_pos n with e|e
   ·exact e
   ·obtain⟨a,e', _⟩:=h.2.2.2 e;cases e'
  subst h0;obtain rfl:k=0:=by omega
  go_simp
 | some a=>go_simp
theorem c0w {base:Nat}{e:TypeId}(h:OwnS w1 base e (.slice A n c) n xs)(hk:3≤n):∀ w,(Instr.slice 22 (.slice A n c) none (some (.int .i64 3)) none).run prog w=.ok (.slice A 3 c) w:=by
 obtain⟨A', c', hv,hnc,hI,_⟩:=h.form;injection hv with h1 _ h3
 subst h1;subst h3;exact d4e (k:=3) hI hk hnc
theorem d4q (hnl:nl=0)(H:Sep w0 w l)(hi:l[i]?=some (TB g A n c a))(hI:Ints w0 A n xs)(ha:a≤n)(hL:a7k w0 l i g A n c Al nl L):
  Calls prog 22 #[.pointer (some ⟨g,0,none⟩),.slice Al nl cl] w (a3u w0 l i g A n c (kSrc xs a)):=by
 obtain⟨KS,hKS⟩:∃ q,kSrc xs a=q:=⟨_,rfl⟩;rw[hKS];have HKS:=Hd hKS;clear hKS;have HXL:=Hd hI.len;have HI:=Hd hI;have hnle:=hI.le;have hll:=hL.1;have hln:=hL.2.1;have HLL:=Hd hll;have HLK:=Hd hL;have HK:Hid (KT l i (TB g A n c a) l):=Hd ⟨hi,fun _=>rfl⟩;clear hll;have h1:=(((H.allocBox w.heap.size 38 zN rfl).addNil 3).addNil 3).addNil 3
 go_enter func22,ntmps22
 go_upto_region 1 with fail
 generalize w.alloc (.cells zA 38)=W at *;generalize w.heap.size=gr at *;clear H hi hI hL;have H:Hid (Sep w0 W ([oN,oN,oN,.box gr 38 zN]++l)):=Hd h1;clear h1;subst hnl
 go_wp2_with fail
 refine(a1l (4) H HK HI ha (by omega) ⟨by omega,by omega⟩).mono ?_;clear H HK;rintro e1 w1 ⟨r1,a1,l1,rfl,HR1,br1,HA1,ba1,HK,H⟩;have HKT:=Hd (show kSrc xs a=KS by exact HKS);by_cases q0:r1=0
 ·subst q0
  go_wp2_with fail
  refine(b5f H HK HI ba1).mono ?_;rintro e2 w2 ⟨v2,m2,rfl,l2,hK,hS⟩;obtain⟨ba2,bs2⟩:=a7h HXL ba1;obtain⟨⟨s2,a2⟩,hx⟩:∃ q,a3g xs a1=q:=⟨_,rfl⟩;rw[hx] at ba2 bs2 hK hS;have HS2:=Hd hx;replace HK:=Hd hK;obtain⟨A2,c2,hv,hmc2,_,_⟩:=(hS.ownS 0 rfl).form;subst hv;simp only at ba2 bs2;have HM2:=Hd (hS.ownS 0 rfl).len;have bm2:m2≤3:=by have h8:s2.length=m2:=HM2.out;omega
  replace H:Hid (Sep w0 w2 ([.own 3 (.slice A2 m2 c2) m2 s2,oN,oN,oN,.box gr 38 zN]++l2)):=Hd hS;clear hx hK hS
  go_wp2_with fail
  refine(c2v H HK HI ba2).mono ?_;rintro e3 w3 ⟨rfl,l3,hK,hS⟩;have ba3:=b8x HXL ba2;have hfN:=b1h xs a2;obtain⟨⟨x3,a3⟩,hx⟩:∃ q,kNum xs a2=q:=⟨_,rfl⟩;rw[hx] at ba3 hK hfN ⊢;have HN3:=Hd hx;replace HK:=Hd hK;have HF3:=Hd hfN;replace H:Hid (Sep w0 w3 ([.own 3 (.slice A2 m2 c2) m2 s2,oN,oN,oN,.box gr 38 zN]++l3)):=Hd hS;clear hx hK hS hfN;simp only at ba3;have HX:=Hd (show KS=(ndV 2 [] s2 [] x3 0,a3) by rw[←HKT.out,kSrc,HR1.out,iP (by omega),HA1.out,HS2.out,HN3.out]);obtain⟨rc0,rc1,rc2,rc3,rc4,rc5,rc6⟩:=H.cells7 4 rfl;obtain⟨fr0,fr1,fr2,fr3,fr4,fr5,fr6⟩:=H.f7 4 rfl;have HF:=Hd (H.set7 4 rfl (.int .i64 2) (.slice none 0 0) (.slice A2 m2 c2) (.slice none 0 0) (.int .i64 x3) (.int .i64 0) (.string ⟨#[]⟩));go_wp2;refine a1v HF 4 rfl results22 rfl rfl ?_;rw[HX.out];exact⟨_,_,_,_,_,_,rfl,_,HK,Sep.pick HF [1,0,2] rfl (by decide)⟩
 have d0:((r1:Int)==0)=false:=by simp;omega
 by_cases q1:r1=1
 ·subst q1;replace H:=Hd (H.litP 3 #[.int .i64 (3)] [(3)] 1 rfl (by first|(simp[a0y];done)|(simp[a0y];omega)))
  go_wp2_with fail
  refine(b5f H HK HI ba1).mono ?_;rintro e2 w2 ⟨v2,m2,rfl,l2,hK,hS⟩;obtain⟨ba2,bs2⟩:=a7h HXL ba1;obtain⟨⟨s2,a2⟩,hx⟩:∃ q,a3g xs a1=q:=⟨_,rfl⟩;rw[hx] at ba2 bs2 hK hS;have HS2:=Hd hx;replace HK:=Hd hK;obtain⟨A2,c2,hv,hmc2,_,_⟩:=(hS.ownS 0 rfl).form;subst hv;simp only at ba2 bs2;have HM2:=Hd (hS.ownS 0 rfl).len;have bm2:m2≤3:=by have h8:s2.length=m2:=HM2.out;omega
  replace H:Hid (Sep w0 w2 ([.own 3 (.slice A2 m2 c2) m2 s2,.own 3 (.slice (some ⟨w1.heap.size,0,none⟩) 1 1) 1 [(3)],oN,oN,oN,.box gr 38 zN]++l2)):=Hd hS;clear hx hK hS
  go_wp2_with (at_builtin;refine a0l rfl (.tmp 47) (.tmp 49) 22 3 rfl underlying22 Tryz.infoInt H.out 1 rfl rfl A2 m2 c2 s2 rfl ((H.out.ownInts 0 rfl).2.2) ?c1 ?_)
  case c1=>omega
  intro v9 w9 h9;replace H:Hid (Sep w0 w9 ([.own 3 (.slice A2 m2 c2) m2 s2,.own 3 v9 (1+m2) ((3:Int)::s2),oN,oN,oN,.box gr 38 zN]++l2)):=Hd h9;clear h9;obtain⟨A9,c9,hv,hmc9,_,_⟩:=(H.ownS 1 rfl).form;subst hv;by_cases q3:m2=3
  ·obtain⟨Z,hZ⟩:∃ Z,((3:Int)::s2).take 3=Z:=⟨_,rfl⟩;have HTK:=Hd hZ;have HTL:=Hd (show(Z.length:Int)=3 by have h8:s2.length=m2:=HM2.out;rw[←hZ,List.length_take,List.length_cons];omega);have d3:decide ((3:Int)<((1+m2:Nat):Int))=true:=by simp;omega
   have d4:decide (3<1+m2)=true:=by simp;omega
   have hk3:3≤1+m2:=by omega
   have hsl:=c0w (H.ownS 1 rfl) hk3;have h9:=H.takeOwn 1 rfl hk3 (by omega);rw[hZ] at h9;clear hZ;replace H:Hid (Sep w0 w9 ([.own 3 (.slice A2 m2 c2) m2 s2,.own 3 (.slice A9 3 c9) 3 Z,oN,oN,oN,.box gr 38 zN]++l2)):=Hd h9;clear h9
   go_wp2_with fail
   refine(a1l ((3:Int)) H HK HI ba2 (by omega) ⟨by omega,by omega⟩).mono ?_;clear H HK;rintro e3 w3 ⟨r3,a3,l3,rfl,HR3,br3,HA3,ba3,HK,H⟩;replace H:=Hd (H.litP 3 #[.int .i64 ((r3:Int))] [((r3:Int))] 1 rfl (by first|(simp[a0y];done)|(simp[a0y];omega)));have HX:=Hd (show KS=(ndV 3 [] (Z) [(r3:Int)] 0 0,a3) by rw[←HKT.out,kSrc,HR1.out,iN (by omega),iP (by omega),HA1.out,HS2.out,HTK.out,HTL.out,HR3.out,HA3.out]);obtain⟨rc0,rc1,rc2,rc3,rc4,rc5,rc6⟩:=H.cells7 6 rfl;obtain⟨fr0,fr1,fr2,fr3,fr4,fr5,fr6⟩:=H.f7 6 rfl;have HF:=Hd (H.set7 6 rfl (.int .i64 3) (.slice none 0 0) (.slice A9 (3) c9) (.slice (some ⟨w3.heap.size,0,none⟩) 1 1) (.int .i64 0) (.int .i64 0) (.string ⟨#[]⟩));go_wp2;refine a1v HF 6 rfl results22 rfl rfl ?_;rw[HX.out];exact⟨_,_,_,_,_,_,rfl,_,HK,Sep.pick HF [3,2,0] rfl (by decide)⟩
  ·have HTK:=Hd (show((3:Int)::s2).take 3=(3:Int)::s2 by have h8:s2.length=m2:=HM2.out;exact List.take_of_length_le (by rw[List.length_cons];omega));have HTL:=Hd (show((((3:Int)::s2).length:Nat):Int)=(1:Int)+(m2:Int) by have h8:s2.length=m2:=HM2.out;rw[List.length_cons];omega);have d3:decide ((3:Int)<((1+m2:Nat):Int))=false:=by simp;omega
   have d4:decide (3<1+m2)=false:=by simp;omega
   go_wp2_with fail
   refine(a1l ((1+m2:Int)) H HK HI ba2 (by omega) ⟨by omega,by omega⟩).mono ?_;clear H HK;rintro e3 w3 ⟨r3,a3,l3,rfl,HR3,br3,HA3,ba3,HK,H⟩;replace H:=Hd (H.litP 3 #[.int .i64 ((r3:Int))] [((r3:Int))] 1 rfl (by first|(simp[a0y];done)|(simp[a0y];omega)));have HX:=Hd (show KS=(ndV 3 [] ((3:Int)::s2) [(r3:Int)] 0 0,a3) by rw[←HKT.out,kSrc,HR1.out,iN (by omega),iP (by omega),HA1.out,HS2.out,HTK.out,HTL.out,HR3.out,HA3.out]);obtain⟨rc0,rc1,rc2,rc3,rc4,rc5,rc6⟩:=H.cells7 6 rfl;obtain⟨fr0,fr1,fr2,fr3,fr4,fr5,fr6⟩:=H.f7 6 rfl;have HF:=Hd (H.set7 6 rfl (.int .i64 3) (.slice none 0 0) (.slice A9 (1+m2) c9) (.slice (some ⟨w3.heap.size,0,none⟩) 1 1) (.int .i64 0) (.int .i64 0) (.string ⟨#[]⟩));go_wp2;refine a1v HF 6 rfl results22 rfl rfl ?_;rw[HX.out];exact⟨_,_,_,_,_,_,rfl,_,HK,Sep.pick HF [3,2,0] rfl (by decide)⟩
 ·have d1:((r1:Int)==1)=false:=by simp;omega
  go_wp2_with fail
  refine(b5f H HK HI ba1).mono ?_;rintro e2 w2 ⟨v2,m2,rfl,l2,hK,hS⟩;obtain⟨ba2,bs2⟩:=a7h HXL ba1;obtain⟨⟨s2,a2⟩,hx⟩:∃ q,a3g xs a1=q:=⟨_,rfl⟩;rw[hx] at ba2 bs2 hK hS;have HS2:=Hd hx;replace HK:=Hd hK;obtain⟨A2,c2,hv,hmc2,_,_⟩:=(hS.ownS 0 rfl).form;subst hv;simp only at ba2 bs2;have HM2:=Hd (hS.ownS 0 rfl).len;have bm2:m2≤3:=by have h8:s2.length=m2:=HM2.out;omega
  replace H:Hid (Sep w0 w2 ([.own 3 (.slice A2 m2 c2) m2 s2,oN,oN,oN,.box gr 38 zN]++l2)):=Hd hS;clear hx hK hS;have HX:=Hd (show KS=(ndV 1 [] s2 [] 0 0,a2) by rw[←HKT.out,kSrc,HR1.out,iN (by omega),iN (by omega),HA1.out,HS2.out]);obtain⟨rc0,rc1,rc2,rc3,rc4,rc5,rc6⟩:=H.cells7 4 rfl;obtain⟨fr0,fr1,fr2,fr3,fr4,fr5,fr6⟩:=H.f7 4 rfl;have HF:=Hd (H.set7 4 rfl (.int .i64 1) (.slice none 0 0) (.slice A2 m2 c2) (.slice none 0 0) (.int .i64 0) (.int .i64 0) (.string ⟨#[]⟩));go_wp2;refine a1v HF 4 rfl results22 rfl rfl ?_;rw[HX.out];exact⟨_,_,_,_,_,_,rfl,_,HK,Sep.pick HF [1,0,2] rfl (by decide)⟩
theorem d6c (hnl:0<nl)(h5:tv xs a 5=0)(H:Sep w0 w l)(hi:l[i]?=some (TB g A n c a))(hI:Ints w0 A n xs)(ha:a≤n)(hL:a7k w0 l i g A n c Al nl L):
  Calls prog 22 #[.pointer (some ⟨g,0,none⟩),.slice Al nl cl] w (a3u w0 l i g A n c (kSrc xs (ta xs a 5))):=by
 obtain⟨KS,hKS⟩:∃ q,kSrc xs (ta xs a 5)=q:=⟨_,rfl⟩;rw[hKS];have HKS:=Hd hKS;clear hKS;have HXL:=Hd hI.len;have HI:=Hd hI;have hnle:=hI.le;have hll:=hL.1;have hln:=hL.2.1;have HLL:=Hd hll;have HLK:=Hd hL;have HK:Hid (KT l i (TB g A n c a) l):=Hd ⟨hi,fun _=>rfl⟩;clear hll;have h1:=(((H.allocBox w.heap.size 38 zN rfl).addNil 3).addNil 3).addNil 3
 go_enter func22,ntmps22
 go_upto_region 1 with fail
 generalize w.alloc (.cells zA 38)=W at *;generalize w.heap.size=gr at *;clear H hi hI hL;have H:Hid (Sep w0 W ([oN,oN,oN,.box gr 38 zN]++l)):=Hd h1;clear h1;have dn:((nl:Int)==0)=false:=by simp;omega
 go_wp2_with fail
 refine(a1l (5) H HK HI ha (by omega) ⟨by omega,by omega⟩).mono ?_;clear H HK;rintro e1 w1 ⟨r1,a1,l1,rfl,HR1,br1,HA1,ba1,HK,H⟩;obtain rfl:r1=0:=by have h8:=HR1.out;rw[h5] at h8;omega
 go_wp2_with fail
 refine(a1l (4) H HK HI ba1 (by omega) ⟨by omega,by omega⟩).mono ?_;clear H HK;rintro e2 w2 ⟨r2,a2,l2,rfl,HR2,br2,HA2,ba2,HK,H⟩;have HKT:=Hd (show kSrc xs a1=KS by rw[←HA1.out];exact HKS);by_cases q0:r2=0
 ·subst q0
  go_wp2_with fail
  refine(b5f H HK HI ba2).mono ?_;rintro e3 w3 ⟨v3,m3,rfl,l3,hK,hS⟩;obtain⟨ba3,bs3⟩:=a7h HXL ba2;obtain⟨⟨s3,a3⟩,hx⟩:∃ q,a3g xs a2=q:=⟨_,rfl⟩;rw[hx] at ba3 bs3 hK hS;have HS3:=Hd hx;replace HK:=Hd hK;obtain⟨A3,c3,hv,hmc3,_,_⟩:=(hS.ownS 0 rfl).form;subst hv;simp only at ba3 bs3;have HM3:=Hd (hS.ownS 0 rfl).len;have bm3:m3≤3:=by have h8:s3.length=m3:=HM3.out;omega
  replace H:Hid (Sep w0 w3 ([.own 3 (.slice A3 m3 c3) m3 s3,oN,oN,oN,.box gr 38 zN]++l3)):=Hd hS;clear hx hK hS
  go_wp2_with fail
  refine(c2v H HK HI ba3).mono ?_;rintro e4 w4 ⟨rfl,l4,hK,hS⟩;have ba4:=b8x HXL ba3;have hfN:=b1h xs a3;obtain⟨⟨x4,a4⟩,hx⟩:∃ q,kNum xs a3=q:=⟨_,rfl⟩;rw[hx] at ba4 hK hfN ⊢;have HN4:=Hd hx;replace HK:=Hd hK;have HF4:=Hd hfN;replace H:Hid (Sep w0 w4 ([.own 3 (.slice A3 m3 c3) m3 s3,oN,oN,oN,.box gr 38 zN]++l4)):=Hd hS;clear hx hK hS hfN;simp only at ba4;have HX:=Hd (show KS=(ndV 2 [] s3 [] x4 0,a4) by rw[←HKT.out,kSrc,HR2.out,iP (by omega),HA2.out,HS3.out,HN4.out]);obtain⟨rc0,rc1,rc2,rc3,rc4,rc5,rc6⟩:=H.cells7 4 rfl;obtain⟨fr0,fr1,fr2,fr3,fr4,fr5,fr6⟩:=H.f7 4 rfl;have HF:=Hd (H.set7 4 rfl (.int .i64 2) (.slice none 0 0) (.slice A3 m3 c3) (.slice none 0 0) (.int .i64 x4) (.int .i64 0) (.string ⟨#[]⟩));go_wp2;refine a1v HF 4 rfl results22 rfl rfl ?_;rw[HX.out];exact⟨_,_,_,_,_,_,rfl,_,HK,Sep.pick HF [1,0,2] rfl (by decide)⟩
 have d0:((r2:Int)==0)=false:=by simp;omega
 by_cases q1:r2=1
 ·subst q1;replace H:=Hd (H.litP 3 #[.int .i64 (3)] [(3)] 1 rfl (by first|(simp[a0y];done)|(simp[a0y];omega)))
  go_wp2_with fail
  refine(b5f H HK HI ba2).mono ?_;rintro e3 w3 ⟨v3,m3,rfl,l3,hK,hS⟩;obtain⟨ba3,bs3⟩:=a7h HXL ba2;obtain⟨⟨s3,a3⟩,hx⟩:∃ q,a3g xs a2=q:=⟨_,rfl⟩;rw[hx] at ba3 bs3 hK hS;have HS3:=Hd hx;replace HK:=Hd hK;obtain⟨A3,c3,hv,hmc3,_,_⟩:=(hS.ownS 0 rfl).form;subst hv;simp only at ba3 bs3;have HM3:=Hd (hS.ownS 0 rfl).len;have bm3:m3≤3:=by have h8:s3.length=m3:=HM3.out;omega
  replace H:Hid (Sep w0 w3 ([.own 3 (.slice A3 m3 c3) m3 s3,.own 3 (.slice (some ⟨w2.heap.size,0,none⟩) 1 1) 1 [(3)],oN,oN,oN,.box gr 38 zN]++l3)):=Hd hS;clear hx hK hS
  go_wp2_with (at_builtin;refine a0l rfl (.tmp 47) (.tmp 49) 22 3 rfl underlying22 Tryz.infoInt H.out 1 rfl rfl A3 m3 c3 s3 rfl ((H.out.ownInts 0 rfl).2.2) ?c1 ?_)
  case c1=>omega
  intro v9 w9 h9;replace H:Hid (Sep w0 w9 ([.own 3 (.slice A3 m3 c3) m3 s3,.own 3 v9 (1+m3) ((3:Int)::s3),oN,oN,oN,.box gr 38 zN]++l3)):=Hd h9;clear h9;obtain⟨A9,c9,hv,hmc9,_,_⟩:=(H.ownS 1 rfl).form;subst hv;by_cases q3:m3=3
  ·obtain⟨Z,hZ⟩:∃ Z,((3:Int)::s3).take 3=Z:=⟨_,rfl⟩;have HTK:=Hd hZ;have HTL:=Hd (show(Z.length:Int)=3 by have h8:s3.length=m3:=HM3.out;rw[←hZ,List.length_take,List.length_cons];omega);have d3:decide ((3:Int)<((1+m3:Nat):Int))=true:=by simp;omega
   have d4:decide (3<1+m3)=true:=by simp;omega
   have hk3:3≤1+m3:=by omega
   have hsl:=c0w (H.ownS 1 rfl) hk3;have h9:=H.takeOwn 1 rfl hk3 (by omega);rw[hZ] at h9;clear hZ;replace H:Hid (Sep w0 w9 ([.own 3 (.slice A3 m3 c3) m3 s3,.own 3 (.slice A9 3 c9) 3 Z,oN,oN,oN,.box gr 38 zN]++l3)):=Hd h9;clear h9
   go_wp2_with fail
   refine(a1l ((3:Int)) H HK HI ba3 (by omega) ⟨by omega,by omega⟩).mono ?_;clear H HK;rintro e4 w4 ⟨r4,a4,l4,rfl,HR4,br4,HA4,ba4,HK,H⟩;replace H:=Hd (H.litP 3 #[.int .i64 ((r4:Int))] [((r4:Int))] 1 rfl (by first|(simp[a0y];done)|(simp[a0y];omega)));have HX:=Hd (show KS=(ndV 3 [] (Z) [(r4:Int)] 0 0,a4) by rw[←HKT.out,kSrc,HR2.out,iN (by omega),iP (by omega),HA2.out,HS3.out,HTK.out,HTL.out,HR4.out,HA4.out]);obtain⟨rc0,rc1,rc2,rc3,rc4,rc5,rc6⟩:=H.cells7 6 rfl;obtain⟨fr0,fr1,fr2,fr3,fr4,fr5,fr6⟩:=H.f7 6 rfl;have HF:=Hd (H.set7 6 rfl (.int .i64 3) (.slice none 0 0) (.slice A9 (3) c9) (.slice (some ⟨w4.heap.size,0,none⟩) 1 1) (.int .i64 0) (.int .i64 0) (.string ⟨#[]⟩));go_wp2;refine a1v HF 6 rfl results22 rfl rfl ?_;rw[HX.out];exact⟨_,_,_,_,_,_,rfl,_,HK,Sep.pick HF [3,2,0] rfl (by decide)⟩
  ·have HTK:=Hd (show((3:Int)::s3).take 3=(3:Int)::s3 by have h8:s3.length=m3:=HM3.out;exact List.take_of_length_le (by rw[List.length_cons];omega));have HTL:=Hd (show((((3:Int)::s3).length:Nat):Int)=(1:Int)+(m3:Int) by have h8:s3.length=m3:=HM3.out;rw[List.length_cons];omega);have d3:decide ((3:Int)<((1+m3:Nat):Int))=false:=by simp;omega
   have d4:decide (3<1+m3)=false:=by simp;omega
   go_wp2_with fail
   refine(a1l ((1+m3:Int)) H HK HI ba3 (by omega) ⟨by omega,by omega⟩).mono ?_;clear H HK;rintro e4 w4 ⟨r4,a4,l4,rfl,HR4,br4,HA4,ba4,HK,H⟩;replace H:=Hd (H.litP 3 #[.int .i64 ((r4:Int))] [((r4:Int))] 1 rfl (by first|(simp[a0y];done)|(simp[a0y];omega)));have HX:=Hd (show KS=(ndV 3 [] ((3:Int)::s3) [(r4:Int)] 0 0,a4) by rw[←HKT.out,kSrc,HR2.out,iN (by omega),iP (by omega),HA2.out,HS3.out,HTK.out,HTL.out,HR4.out,HA4.out]);obtain⟨rc0,rc1,rc2,rc3,rc4,rc5,rc6⟩:=H.cells7 6 rfl;obtain⟨fr0,fr1,fr2,fr3,fr4,fr5,fr6⟩:=H.f7 6 rfl;have HF:=Hd (H.set7 6 rfl (.int .i64 3) (.slice none 0 0) (.slice A9 (1+m3) c9) (.slice (some ⟨w4.heap.size,0,none⟩) 1 1) (.int .i64 0) (.int .i64 0) (.string ⟨#[]⟩));go_wp2;refine a1v HF 6 rfl results22 rfl rfl ?_;rw[HX.out];exact⟨_,_,_,_,_,_,rfl,_,HK,Sep.pick HF [3,2,0] rfl (by decide)⟩
 ·have d1:((r2:Int)==1)=false:=by simp;omega
  go_wp2_with fail
  refine(b5f H HK HI ba2).mono ?_;rintro e3 w3 ⟨v3,m3,rfl,l3,hK,hS⟩;obtain⟨ba3,bs3⟩:=a7h HXL ba2;obtain⟨⟨s3,a3⟩,hx⟩:∃ q,a3g xs a2=q:=⟨_,rfl⟩;rw[hx] at ba3 bs3 hK hS;have HS3:=Hd hx;replace HK:=Hd hK;obtain⟨A3,c3,hv,hmc3,_,_⟩:=(hS.ownS 0 rfl).form;subst hv;simp only at ba3 bs3;have HM3:=Hd (hS.ownS 0 rfl).len;have bm3:m3≤3:=by have h8:s3.length=m3:=HM3.out;omega
  replace H:Hid (Sep w0 w3 ([.own 3 (.slice A3 m3 c3) m3 s3,oN,oN,oN,.box gr 38 zN]++l3)):=Hd hS;clear hx hK hS;have HX:=Hd (show KS=(ndV 1 [] s3 [] 0 0,a3) by rw[←HKT.out,kSrc,HR2.out,iN (by omega),iN (by omega),HA2.out,HS3.out]);obtain⟨rc0,rc1,rc2,rc3,rc4,rc5,rc6⟩:=H.cells7 4 rfl;obtain⟨fr0,fr1,fr2,fr3,fr4,fr5,fr6⟩:=H.f7 4 rfl;have HF:=Hd (H.set7 4 rfl (.int .i64 1) (.slice none 0 0) (.slice A3 m3 c3) (.slice none 0 0) (.int .i64 0) (.int .i64 0) (.string ⟨#[]⟩));go_wp2;refine a1v HF 4 rfl results22 rfl rfl ?_;rw[HX.out];exact⟨_,_,_,_,_,_,rfl,_,HK,Sep.pick HF [1,0,2] rfl (by decide)⟩
end Go.Proofs.YtjblengklgkgfaaGreat
