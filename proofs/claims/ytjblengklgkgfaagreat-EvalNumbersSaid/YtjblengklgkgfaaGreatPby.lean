import Derived.Test.YtjblengklgkgfaaGreatPbp
set_option maxRecDepth 100000
set_option maxHeartbeats 12800000
namespace Go.Proofs.YtjblengklgkgfaaGreat
open Go.RowKit Go.Proofs.Tryz
variable {At:Option Addr} {ct nt:Nat} {v:Value} {w:World}
theorem a4b {G:a3n}{P:TL}(h:a2c w v G)(hs:a7y 800 G)(hT:Tens w At nt P)(hct:nt≤ct:=by omega)(hn:nt≤800:=by omega):
  Calls prog 10 #[v,.slice At nt ct] w fun e w'=>e=.returned (.bool true)∧Below w.heap.size w w':=by
 have HG:=Hd h;obtain⟨A,na,ca,B,nb,cb,C,nc,cc,rfl,hL⟩:=h;clear hL;have h1:=(Sep.nil w).allocBox w.heap.size 25 [.slice A na ca,.string G.names,.slice B nb cb,.slice C nc cc] rfl;have HS:=Hd hs;have HT:=Hd hT;obtain⟨⟨E1,L1⟩,hR1⟩:∃ r,a6w G P=r:=⟨_,rfl⟩;obtain⟨⟨E2,L2⟩,hR2⟩:∃ r,a7p G P=r:=⟨_,rfl⟩;have HR1:=Hd hR1;have HR2:=Hd hR2;clear hs hT hR1 hR2
 go_enter func10,ntmps10
 go_upto_region 1 with fail
 generalize w.alloc (.cells #[.slice A na ca,.string G.names,.slice B nb cb,.slice C nc cc] 25)=w1 at *;have H:=Hd h1;clear h1;obtain⟨g0,g1,g2,g3⟩:=H.cells4 0 rfl;have C1:=c3a (ct:=ct) (HG.below H.base) HS (HT.below H.base);rw[HR1.out] at C1
 go_wp2_with fail
 refine C1.mono ?_;rintro e0 x0 ⟨⟨A0,n0,c0,rfl,hc0,hT0⟩,hb⟩;have HT0:=Hd hT0;clear hT0;replace H:=Hd (H.below hb);clear C1 hb g0 g1 g2 g3;obtain⟨g0,g1,g2,g3⟩:=H.cells4 0 rfl;have C1:=b6n (ct:=ct) (HG.below H.base) HS (HT.below H.base);rw[HR1.out] at C1
 go_wp2_with fail
 refine C1.mono ?_;rintro e1 x1 ⟨⟨A1,n1,c1,rfl,hc1,hT1⟩,hb⟩;have HT1:=Hd hT1;clear hT1;replace H:=Hd (H.below hb);replace HT0:=Hd (HT0.below hb);clear C1 hb g0 g1 g2 g3;obtain⟨g0,g1,g2,g3⟩:=H.cells4 0 rfl;have C1:=a7n (ct:=ct) (HG.below H.base) HS (HT.below H.base);rw[HR2.out] at C1
 go_wp2_with fail
 refine C1.mono ?_;rintro e2 x2 ⟨⟨A2,n2,c2,rfl,hc2,hT2⟩,hb⟩;have HT2:=Hd hT2;clear hT2;replace H:=Hd (H.below hb);replace HT0:=Hd (HT0.below hb);replace HT1:=Hd (HT1.below hb);clear C1 hb g0 g1 g2 g3;obtain⟨g0,g1,g2,g3⟩:=H.cells4 0 rfl;have C1:=c3m (ct:=ct) (HG.below H.base) HS (HT.below H.base);rw[HR2.out] at C1
 go_wp2_with fail
 refine C1.mono ?_;rintro e3 x3 ⟨⟨A3,n3,c3,rfl,hc3,hT3⟩,hb⟩;have HT3:=Hd hT3;clear hT3;replace H:=Hd (H.below hb);replace HT0:=Hd (HT0.below hb);replace HT1:=Hd (HT1.below hb);replace HT2:=Hd (HT2.below hb);clear C1 hb g0 g1 g2 g3;have ke1:(E1==E1)=true:=by simp
 have ke2:(E2==E2)=true:=by simp
 have C5:=a5x (c:=c0) (d:=c1) HT0 HT1
 go_wp2_with fail
 refine C5.mono ?_;rintro e5 w5 ⟨rfl,hb5⟩;replace H:=Hd (H.below hb5);have C6:=a5x (c:=c2) (d:=c3) (HT2.below hb5) (HT3.below hb5);clear C5 hb5
 go_wp2_with fail
 refine C6.mono ?_;rintro e6 w6 ⟨rfl,hb6⟩;replace H:=Hd (H.below hb6);clear C6 hb6;go_wp2;go_ret;exact⟨by trivial,H.base⟩
theorem a9s {nd:a0s}{L:TL}(h:a4a w v nd)(hT:Tens w At nt L)(hct:nt≤ct:=by omega)(hn:nt≤800:=by omega):
  Calls prog 12 #[v,.slice At nt ct] w fun e w'=>e=.returned (.bool true)∧Below w.heap.size w w':=by
 have HN:=Hd h;obtain⟨A,na,ca,B,nb,cb,C,nc,cc,rfl,hL⟩:=h;clear hL;have h1:=(Sep.nil w).allocBox w.heap.size 38 [.int .i64 nd.op,.slice A na ca,.slice B nb cb,.slice C nc cc,.int .i64 nd.n,.int .i64 nd.how,.string nd.note] rfl;have HT:=Hd hT;obtain⟨⟨E,S,D⟩,hR⟩:∃ r,b4h nd L=r:=⟨_,rfl⟩;have HR:=Hd hR;clear hT hR
 go_enter func12,ntmps12
 go_upto_region 1 with fail
 generalize w.alloc (.cells #[.int .i64 nd.op,.slice A na ca,.slice B nb cb,.slice C nc cc,.int .i64 nd.n,.int .i64 nd.how,.string nd.note] 38)=w1 at *;have H:=Hd h1;clear h1;obtain⟨n0,n1,n2,n3,n4,n5,n6⟩:=H.cells7 0 rfl;have C1:=c6c (ct:=ct) (HN.below H.base) (HT.below H.base);rw[HR.out] at C1
 go_wp2_with fail
 refine C1.mono ?_;rintro e0 x0 ⟨⟨u,rfl,hu⟩,hb⟩;have hu2:=hu;obtain⟨S0,s0,sc0,D0,d0,dc0,rfl,_,_,_,_⟩:=hu;have h2:=(H.below hb).allocBox x0.heap.size 33 [.slice S0 s0 sc0,.slice D0 d0 dc0] rfl;have HU0:=Hd (hu2.below ((Below.refl _ _).alloc (Nat.le_refl _) (.cells #[.slice S0 s0 sc0,.slice D0 d0 dc0] 33)));have hbx:=hb.alloc hb.size (.cells #[.slice S0 s0 sc0,.slice D0 d0 dc0] 33);clear C1 hb hu2 hbx n0 n1 n2 n3 n4 n5 n6
 go_upto_region 2 with fail
 generalize x0.alloc (.cells #[.slice S0 s0 sc0,.slice D0 d0 dc0] 33)=y0 at *;generalize x0.heap.size=gx0 at *;replace H:=Hd h2;clear h2;obtain⟨n0,n1,n2,n3,n4,n5,n6⟩:=H.cells7 1 rfl;have C1:=c2p (ct:=ct) (HN.below H.base) (HT.below H.base);rw[HR.out] at C1
 go_wp2_with fail
 refine C1.mono ?_;rintro e1 x1 ⟨⟨u,rfl,hu⟩,hb⟩;have hu2:=hu;obtain⟨S1,s1,sc1,D1,d1,dc1,rfl,_,_,_,_⟩:=hu;have h2:=(H.below hb).allocBox x1.heap.size 33 [.slice S1 s1 sc1,.slice D1 d1 dc1] rfl;have HU1:=Hd (hu2.below ((Below.refl _ _).alloc (Nat.le_refl _) (.cells #[.slice S1 s1 sc1,.slice D1 d1 dc1] 33)));have hbx:=hb.alloc hb.size (.cells #[.slice S1 s1 sc1,.slice D1 d1 dc1] 33);replace HU0:=Hd (HU0.below hbx);clear C1 hb hu2 hbx n0 n1 n2 n3 n4 n5 n6
 go_upto_region 3 with fail
 generalize x1.alloc (.cells #[.slice S1 s1 sc1,.slice D1 d1 dc1] 33)=y1 at *;generalize x1.heap.size=gx1 at *;replace H:=Hd h2;clear h2;have ke:(E==E)=true:=by simp
 obtain⟨a0,a1⟩:=H.z2 1 rfl;obtain⟨b0,b1⟩:=H.z2 0 rfl;have C5:=b6b HU0 HU1
 go_wp2_with fail
 refine C5.mono ?_;rintro e5 w5 ⟨rfl,hb5⟩;replace H:=Hd (H.below hb5);clear C5 hb5 a0 a1 b0 b1;go_wp2;go_ret;exact⟨by trivial,H.base⟩
end Go.Proofs.YtjblengklgkgfaaGreat
