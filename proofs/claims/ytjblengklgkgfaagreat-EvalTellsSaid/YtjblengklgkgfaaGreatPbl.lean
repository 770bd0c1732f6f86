import Derived.Test.YtjblengklgkgfaaGreatPbk
set_option maxRecDepth 100000
set_option maxHeartbeats 12800000
namespace Go.Proofs.YtjblengklgkgfaaGreat
open Go.RowKit Go.Proofs.Tryz
variable {Aa:Option Addr} {a d s:List Int} {ca na:Nat} {v:Value} {w:World}
theorem c8c {Af Az:Option Addr}{nf cf nz cz:Nat}{f z:List Int}(h:Ten w v s d)(hF:Ints w Af nf f)(hZ:Ints w Az nz z):
  Calls prog 67 #[v,.slice Af nf cf,.slice Az nz cz] w fun e w'=>(∃ u,e=.returned (.tuple #[u,.int .i64 (cutR s d f z).1])∧OTen w' w.heap.size u (cutR s d f z).2.1 (cutR s d f z).2.2)∧Below w.heap.size w w':=by
 obtain⟨A,n,c,B,m,e,rfl,hnc,hme,hI,hJ⟩:=h;have h1:=((((((Sep.nil w).old hZ).old hF).old hJ).old hI).allocBox w.heap.size 33 [.slice A n c,.slice B m e] rfl).allocBox (w.heap.size+1) 33 [.slice none 0 0,.slice none 0 0] (by simp);have hsl:=hI.len;have hnle:=hI.le;have hmle:=hJ.le;have HFD:=Hd hJ.fit;have HDL:=Hd hJ.len;have hlf:=hF.len;have hlef:=hF.le;have hlz:=hZ.len;have hlez:=hZ.le
 go_enter func67,ntmps67
 go_upto_region 1 with fail
 generalize (w.alloc (.cells #[.slice A n c,.slice B m e] 33)).alloc (.cells #[.slice none 0 0,.slice none 0 0] 33)=W at *;have H:=Hd h1;clear h1 hI hJ hF hZ;have HSL:=Hd hsl;clear hsl;have HLf:=Hd hlf;clear hlf;have HLz:=Hd hlz;clear hlz;have hT:=a1s (H.oldInts 2 rfl) hnc (H.oldInts 3 rfl) hme;have C1:=a2q hT;have HT:=Hd hT;clear hT;obtain⟨t0,t1⟩:=H.z2 1 rfl
 go_wp2_with fail
 cases hr:a0a s d with
 | false =>
  rw[hr] at C1;refine C1.mono ?_;rintro e2 w2 ⟨rfl,hb2⟩;replace H:=Hd (H.below hb2);have HX:=Hd (c1v (f:=f) (z:=z) hr);obtain⟨r0,r1,fr0,fr1⟩:=H.b2 0;clear hb2 hr C1 t0 t1;go_wp2;rw[HX.out]
  exact sN2 H 0 13 results67
 | true =>
  rw[hr] at C1;refine C1.mono ?_;rintro e2 w2 ⟨rfl,hb2⟩;replace H:=Hd (H.below hb2);have HRT:=Hd hr;have HRS:=Hd (a1p hr);clear hb2 hr C1 t0 t1 HT;have hn4:n≤4:=by have:=(a1f HRT).1;have:=HSL.out;omega
  obtain⟨t0,t1⟩:=H.z2 1 rfl;have C2:=c5w (cf:=cf) (cz:=cz) (cs:=c) (H.oldInts 4 rfl) (H.oldInts 5 rfl) (H.oldInts 2 rfl) (Sh.right_iff.1 HRS).2.1
  go_wp2_with fail
  cases hc:a3w s f z with
  | false =>
   rw[hc] at C2;refine C2.mono ?_;rintro e3 w3 ⟨rfl,q,rfl⟩;replace H:=Hd (H.drewN q);have HX:=Hd (b6x HRT hc);clear hc C2 t0 t1;obtain⟨r0,r1,fr0,fr1⟩:=H.b2 0;go_wp2;rw[HX.out]
   exact sN2 H 0 1 results67
  | true =>
   rw[hc] at C2;refine C2.mono ?_;rintro e3 w3 ⟨rfl,q,rfl⟩;replace H:=Hd (H.drewN q);have HOK:=Hd hc;clear hc C2 t0 t1;generalize w2.drewN q=w3 at *;obtain⟨hzr,hnf⟩:=c2r HRS HOK;obtain⟨hld,hcd⟩:=d7x HRT HOK;have HZR:=Hd hzr;have HNF:=Hd hnf;have HLD:=Hd hld;obtain⟨hfl,hzl⟩:=a8o HOK;have h1:nf=n:=by have:=HSL.out;have:=HLf.out;omega
   have h2:nz=n:=by have:=HSL.out;have:=HLz.out;omega
   subst h1;subst h2;have HQ:=Hd (show cutR s d f z=(0,z,c0j d z f (Sh.strides s)) from by rw[c7i HRT.out HOK.out,hcd]);clear hzr hnf hld hcd hfl hzl
   go_upto_region 5 with fail
   obtain⟨t0,t1⟩:=H.z2 1 rfl;have C3:=Hd (a6q (w:=w3.drew) (c:=c) (H.drew.oldInts 2 rfl) HRS)
   go_region_held3 (fun w'=>w'.cell? ⟨w.heap.size,0,none⟩=some (.slice A nz c)∧w'.cell? ⟨w.heap.size,1,none⟩=some (.slice B m e)) (go_keep)
    (first|(go_at_call 110;refine(b8y (a1s (H5.oldInts 3 rfl) hnc (H5.oldInts 4 rfl) hme) (H5.oldInts 6 rfl) (H5.oldInts 5 rfl) (H5.ownInts 0 rfl).2.2 HZR HNF (Sh.strides_bd HRS) HLD).mono ?_;rintro e7 w7 ⟨⟨u7,rfl,hu7⟩,hb7⟩;obtain⟨S7,ns7,sc7,D7,nd7,dc7,rfl,H7,r0,r1,fr0,fr1,H8⟩:=H5.aB 1 hb7 hu7;obtain⟨m0,m1⟩:=H7.z2 4 rfl;have k0:((w7.setCell ⟨w.heap.size+1,0,none⟩ (.slice S7 ns7 sc7)).setCell ⟨w.heap.size+1,1,none⟩ (.slice D7 nd7 dc7)).cell? ⟨w.heap.size,0,none⟩=some (.slice A nz c):=H8.c 4 0;have k1:((w7.setCell ⟨w.heap.size+1,0,none⟩ (.slice S7 ns7 sc7)).setCell ⟨w.heap.size+1,1,none⟩ (.slice D7 nd7 dc7)).cell? ⟨w.heap.size,1,none⟩=some (.slice B m e):=H8.c 4 1;clear hu7 hb7)|(go_at_call 106;refine C3.mono ?_;rintro e5 w5 ⟨⟨v5,n5,rfl,hO5⟩,hb5⟩;obtain⟨A5,c5,rfl,hc5,_,_⟩:=hO5.form;have hn5:nz=n5:=(by have:=hO5.len;rw[Sh.strides_length] at this;have:=HSL.out;omega);subst hn5;have H5:=Hd (H.drew.addOwn hb5 hO5);obtain⟨j0,j1⟩:=H5.z2 2 rfl;clear hO5 hb5))
   go_wp2;rw[HQ.out];exact sY2 H8 3 0 1 (.int .i64 0) results67
theorem d0h (h:Ten w v s d)(hA:Ints w Aa na a):
  Calls prog 64 #[v,.slice Aa na ca] w fun e w'=>(∃ u,e=.returned (.tuple #[u,.int .i64 (a6y s d a).1])∧OTen w' w.heap.size u (a6y s d a).2.1 (a6y s d a).2.2)∧Below w.heap.size w w':=by
 obtain⟨A,n,c,B,m,e,rfl,hnc,hme,hI,hJ⟩:=h;have h1:=(((((Sep.nil w).old hA).old hJ).old hI).allocBox w.heap.size 33 [.slice A n c,.slice B m e] rfl).allocBox (w.heap.size+1) 33 [.slice none 0 0,.slice none 0 0] (by simp);have hsl:=hI.len;have hnle:=hI.le;have hmle:=hJ.le;have HFD:=Hd hJ.fit;have HDL:=Hd hJ.len;have hla:=hA.len;have hlea:=hA.le
 go_enter func64,ntmps64
 go_upto_region 1 with fail
 generalize (w.alloc (.cells #[.slice A n c,.slice B m e] 33)).alloc (.cells #[.slice none 0 0,.slice none 0 0] 33)=W at *;have H:=Hd h1;clear h1 hI hJ hA;have HSL:=Hd hsl;clear hsl;have HLa:=Hd hla;clear hla;have hT:=a1s (H.oldInts 2 rfl) hnc (H.oldInts 3 rfl) hme;have C1:=a2q hT;have HT:=Hd hT;clear hT;obtain⟨t0,t1⟩:=H.z2 1 rfl
 go_wp2_with fail
 cases hr:a0a s d with
 | false =>
  rw[hr] at C1;refine C1.mono ?_;rintro e2 w2 ⟨rfl,hb2⟩;replace H:=Hd (H.below hb2);have HX:=Hd (b8k (a:=a) hr);obtain⟨r0,r1,fr0,fr1⟩:=H.b2 0;clear hb2 hr C1 t0 t1;go_wp2;rw[HX.out]
  exact sN2 H 0 13 results64
 | true =>
  rw[hr] at C1;refine C1.mono ?_;rintro e2 w2 ⟨rfl,hb2⟩;replace H:=Hd (H.below hb2);have HRT:=Hd hr;have HRS:=Hd (a1p hr);clear hb2 hr C1 t0 t1 HT;have hn4:n≤4:=by have:=(a1f HRT).1;have:=HSL.out;omega
  obtain⟨t0,t1⟩:=H.z2 1 rfl;have C2:=c5a (s:=s) (c:=ca) (H.oldInts 4 rfl) (by have:=HSL.out;omega);rw[HSL.out] at C2
  go_wp2_with fail
  refine C2.mono ?_;rintro e3 w3 ⟨⟨b3,rfl,hb⟩,hb3⟩;replace H:=Hd (H.below hb3);have HB:=Hd hb;clear hb hb3 C2 t0 t1
  cases b3
  case false =>
   have HX:=Hd (b4p HRT (fun hc=>by have:=HB.out.2 hc;cases this));obtain⟨r0,r1,fr0,fr1⟩:=H.b2 0;go_wp2;rw[HX.out];exact sN2 H 0 1 results64
  case true =>
   have HOK:=Hd (HB.out.1 rfl);have hna:na=n:=by have:=HOK.out.1;have:=HSL.out;have:=HLa.out;omega
   subst hna;obtain⟨t0,t1⟩:=H.z2 1 rfl
   go_wp2_with fail
   refine(a6q (H.oldInts 2 rfl) HRS).mono ?_;rintro e4 w4 ⟨⟨v4,n4,rfl,hO⟩,hb4⟩;obtain⟨A4,c4,rfl,hc4,_,_⟩:=hO.form;have hn:na=n4:=by have:=hO.len;rw[Sh.strides_length] at this;have:=HSL.out;omega
   subst hn;replace H:=Hd (H.addOwn hb4 hO);clear hO hb4 hc4 t0 t1;have hm:=a0t underlying22 Tryz.infoInt (n:=na) (by omega);have HA:=Hd (H.drew.noughts2 3 na (by omega))
   go_upto_region 6 with fail
   go_cut [7,8] (fun u v wx=>∃ g7 g8:Nat,u=.slice (some ⟨g7,0,none⟩) na na∧v=.slice (some ⟨g8,0,none⟩) na na∧Sep w wx (.own 3 (.slice (some ⟨g8,0,none⟩) na na) na (List.replicate na 0)::.own 3 (.slice (some ⟨g7,0,none⟩) na na) na (List.replicate na 0)::[.own 3 (.slice A4 na c4) na (Sh.strides s),.box (w.heap.size+1) 33 [.slice none 0 0,.slice none 0 0],.box w.heap.size 33 [.slice A na c,.slice B m e],.ints A na s,.ints B m d,.ints Aa na a]))
   case first =>
    go_region_held3 (fun w'=>True) (go_keep) (fail)
    all_goals go_wp2_with fail
    all_goals go_meet
    all_goals first
     | exact⟨_,_,rfl,rfl,HA⟩
     | exact⟨_,_,rfl,rfl,HA.swap⟩
   case rest =>
    obtain⟨g7,g8,rfl,rfl,hS⟩:=hcut;clear HA hm H;have H:=Hd hS;clear hS;have HTL:=Hd (show(a2s s a).length=na by rw[a2x];exact HLa);have HTM:=Hd (show(a2s (Sh.strides s) a).length=na by rw[a2x];exact HLa)
    go_wp2_with fail
    go_loopw [33] (fun kv wr=>∃ j:Nat,kv=.int .i64 j∧j≤na∧Sep w wr [.own 3 (.slice (some ⟨g8,0,none⟩) na na) na (mix (a2s (Sh.strides s) a) (List.replicate na 0) j),.own 3 (.slice (some ⟨g7,0,none⟩) na na) na (mix (a2s s a) (List.replicate na 0) j),.own 3 (.slice A4 na c4) na (Sh.strides s),.box (w.heap.size+1) 33 [.slice none 0 0,.slice none 0 0],.box w.heap.size 33 [.slice A na c,.slice B m e],.ints A na s,.ints B m d,.ints Aa na a]) (fun kv _=>na-(intOf kv).toNat)
    case atStart=>exact⟨0,rfl,by omega,by rw[a2p,a2p];exact H⟩
    case round =>
     clear H;obtain⟨j,rfl,hj,hS⟩:=hrel;by_cases hlt:j<na
     ·obtain⟨aa,x,haA,_,hx,hcx,hfx⟩:=(hS.oldInts 7 rfl).at_ (k:=j) hlt;subst haA;have hxi:=b4r HOK hx;obtain⟨xn,rfl⟩:=eZ hxi.1;have hxn:xn<na:=by have:=HSL.out;omega
      obtain⟨sa,y,hsA,_,hy,hcy,hfy⟩:=(hS.oldInts 5 rfl).at_ (k:=xn) hxn;subst hsA;obtain⟨ra,z,hrA,_,hz,hcz,hfz⟩:=((hS.ownInts 2 rfl).2.2).at_ (k:=xn) hxn;subst hrA;have c7:=(hS.own 1 rfl).cell (a4o (c:=0) HTL hlt);have f7:=(hS.own 1 rfl).frozen j;have hS1:=hS.store 1 j hfy rfl;rw[a3i HTL.out (b1z hx (by rw[Int.toNat_natCast];exact hy))] at hS1;have c8:=(hS1.own 0 rfl).cell (a4o (c:=0) HTM hlt);have f8:=(hS1.own 0 rfl).frozen j;have hS2:=hS1.store 0 j hfz rfl;rw[a3i HTM.out (b1z hx (by rw[Int.toNat_natCast];exact hz))] at hS2;have t0:=hS.c 4 0;have t0hS1:(wr.setCell ⟨g7,j,none⟩ (.int .i64 y)).drew.cell? ⟨w.heap.size,0,none⟩=some (.slice (some sa) na c):=hS1.c 4 0;have yhS1:(wr.setCell ⟨g7,j,none⟩ (.int .i64 y)).drew.cell? (sa.add xn)=some (.int .i64 y):=(hS1.oldInts 5 rfl).get hy;have zhS1:(wr.setCell ⟨g7,j,none⟩ (.int .i64 y)).drew.cell? (ra.add xn)=some (.int .i64 z):=(hS1.ownInts 2 rfl).2.2.get hz;have t0hS2:((wr.setCell ⟨g7,j,none⟩ (.int .i64 y)).setCell ⟨g8,j,none⟩ (.int .i64 z)).drew.cell? ⟨w.heap.size,0,none⟩=some (.slice (some sa) na c):=hS2.c 4 0;have yhS2:((wr.setCell ⟨g7,j,none⟩ (.int .i64 y)).setCell ⟨g8,j,none⟩ (.int .i64 z)).drew.cell? (sa.add xn)=some (.int .i64 y):=(hS2.oldInts 5 rfl).get hy;have zhS2:((wr.setCell ⟨g7,j,none⟩ (.int .i64 y)).setCell ⟨g8,j,none⟩ (.int .i64 z)).drew.cell? (ra.add xn)=some (.int .i64 z):=(hS2.ownInts 2 rfl).2.2.get hz;have c81:(wr.setCell ⟨g7,j,none⟩ (.int .i64 y)).drew.cell? ⟨g8,j,none⟩=some (.int .i64 0):=c8;have f81:(wr.setCell ⟨g7,j,none⟩ (.int .i64 y)).drew.frozen? ⟨g8,j,none⟩=false:=f8;have HS2:=Hd (show Sep w ((wr.setCell ⟨g7,j,none⟩ (.int .i64 y)).setCell ⟨g8,j,none⟩ (.int .i64 z)).drew _ from hS2.drew);clear hS hS1 hS2 hx hy hz hxi hfx hfy hfz c8 f8
      go_upto_region 10 with fail
      go_region_held3 (fun w'=>w'.cell? ⟨w.heap.size,0,none⟩=some (.slice (some sa) na c)∧w'.cell? (sa.add xn)=some (.int .i64 y)∧w'.cell? (ra.add xn)=some (.int .i64 z)) (go_keep) (fail)
      all_goals (
       go_wp2;go_roundw
       case rel=>exact⟨j+1,by go_num,by omega,HS2⟩
       case measure=>simp[intOf];omega)
     ·have hjn:na=j:=by omega
      subst hjn;rw[a4n HTL.out,a4n HTM.out] at hS;have H:=Hd hS;clear hS;obtain⟨hld,hcd⟩:=d3a HRT HOK;have htr:=(b5h HOK HRS).1;rw[HLa.out] at hld hcd;have HLD:=Hd hld;have HTR:=Hd htr;have HQ:=Hd (show a6y s d a=(0,a2s s a,c0j d (a2s s a) (List.replicate na 0) (a2s (Sh.strides s) a)) from by rw[c3p HRT.out HOK.out,hcd]);clear hld hcd htr;have hm:=a0t underlying22 Tryz.infoInt (n:=na) (by omega)
      go_upto_region 12 with fail
      obtain⟨t0,t1⟩:=H.z2 4 rfl;have H5:=Hd (H.drew.noughts 3 na (by omega));have j0:(wr.drew.alloc (.cells (noughts na) 3)).cell? ⟨w.heap.size,0,none⟩=some (.slice A na c):=H5.c 5 0;have j1:(wr.drew.alloc (.cells (noughts na) 3)).cell? ⟨w.heap.size,1,none⟩=some (.slice B m e):=H5.c 5 1
      go_region_held3 (fun w'=>w'.cell? ⟨w.heap.size,0,none⟩=some (.slice A na c)∧w'.cell? ⟨w.heap.size,1,none⟩=some (.slice B m e)) (go_keep)
       (first|(go_at_call 110;refine(b8y (a1s (H5.oldInts 6 rfl) hnc (H5.oldInts 7 rfl) hme) (H5.ownInts 2 rfl).2.2 (H5.ownInts 0 rfl).2.2 (H5.ownInts 1 rfl).2.2 HTR (c6g na) (d0k HRS) HLD).mono ?_;rintro e7 w7 ⟨⟨u7,rfl,hu7⟩,hb7⟩;obtain⟨S7,ns7,sc7,D7,nd7,dc7,rfl,H7,r0,r1,fr0,fr1,H8⟩:=H5.aB 4 hb7 hu7;obtain⟨m0,m1⟩:=H7.z2 7 rfl;have k0:((w7.setCell ⟨w.heap.size+1,0,none⟩ (.slice S7 ns7 sc7)).setCell ⟨w.heap.size+1,1,none⟩ (.slice D7 nd7 dc7)).cell? ⟨w.heap.size,0,none⟩=some (.slice A na c):=H8.c 7 0;have k1:((w7.setCell ⟨w.heap.size+1,0,none⟩ (.slice S7 ns7 sc7)).setCell ⟨w.heap.size+1,1,none⟩ (.slice D7 nd7 dc7)).cell? ⟨w.heap.size,1,none⟩=some (.slice B m e):=H8.c 7 1;clear hu7 hb7)|fail)
      go_wp2;rw[HQ.out];exact sY2 H8 6 0 1 (.int .i64 0) results64
theorem c6d {Ao:Option Addr}{no co:Nat}{o:List Int}(h:Ten w v s d)(hO:Ints w Ao no o)(hA:Ints w Aa na a):
  Calls prog 65 #[v,.slice Ao no co,.slice Aa na ca] w fun e w'=>(∃ u,e=.returned (.tuple #[u,.int .i64 (spR s d o a).1])∧OTen w' w.heap.size u (spR s d o a).2.1 (spR s d o a).2.2)∧Below w.heap.size w w':=by
 obtain⟨A,n,c,B,m,e,rfl,hnc,hme,hI,hJ⟩:=h;have h1:=((((((Sep.nil w).old hA).old hO).old hJ).old hI).allocBox w.heap.size 33 [.slice A n c,.slice B m e] rfl).allocBox (w.heap.size+1) 33 [.slice none 0 0,.slice none 0 0] (by simp);have hsl:=hI.len;have hnle:=hI.le;have hmle:=hJ.le;have HFD:=Hd hJ.fit;have HDL:=Hd hJ.len;have hlo:=hO.len;have hleo:=hO.le;have hla:=hA.len;have hlea:=hA.le
 go_enter func65,ntmps65
 go_upto_region 1 with fail
 generalize (w.alloc (.cells #[.slice A n c,.slice B m e] 33)).alloc (.cells #[.slice none 0 0,.slice none 0 0] 33)=W at *;have H:=Hd h1;clear h1 hI hJ hO hA;have HSL:=Hd hsl;clear hsl;have HLo:=Hd hlo;clear hlo;have HLa:=Hd hla;clear hla;have hT:=a1s (H.oldInts 2 rfl) hnc (H.oldInts 3 rfl) hme;have C1:=a2q hT;have HT:=Hd hT;clear hT;obtain⟨t0,t1⟩:=H.z2 1 rfl
 go_wp2_with fail
 cases hr:a0a s d with
 | false =>
  rw[hr] at C1;refine C1.mono ?_;rintro e2 w2 ⟨rfl,hb2⟩;replace H:=Hd (H.below hb2);have HX:=Hd (b0v (s:=s) (d:=d) (o:=o) (a:=a) (by rw[hr];rfl));obtain⟨r0,r1,fr0,fr1⟩:=H.b2 0;clear hb2 hr C1 t0 t1;go_wp2;rw[HX.out]
  exact sN2 H 0 13 results65
 | true =>
  rw[hr] at C1;refine C1.mono ?_;rintro e2 w2 ⟨rfl,hb2⟩;replace H:=Hd (H.below hb2);have HRT:=Hd hr;have HRS:=Hd (a1p hr);clear hb2 hr C1 t0 t1 HT;have hn4:n≤4:=by have:=(a1f HRT).1;have:=HSL.out;omega
  have C2:=a1w (c:=co) (H.oldInts 4 rfl)
  go_wp2_with fail
  cases ho:Sh.right o with
  | false =>
   rw[ho] at C2;refine C2.mono ?_;rintro e3 w3 ⟨rfl,rfl⟩;have HX:=Hd (b0v (s:=s) (d:=d) (o:=o) (a:=a) (by rw[ho];simp));obtain⟨r0,r1,fr0,fr1⟩:=H.b2 0;clear ho C2;go_wp2;rw[HX.out]
   exact sN2 H 0 13 results65
  | true =>
   rw[ho] at C2;refine C2.mono ?_;rintro e3 w3 ⟨rfl,rfl⟩;have HRO:=Hd ho;have HBO:=Hd (show(a0a s d&&Sh.right o)=true by rw[HRT.out,HRO.out];rfl);have hno4:no≤4:=by have:=(Sh.right_iff.1 ho).1;have:=HLo.out;omega
   clear ho C2;obtain⟨t0,t1⟩:=H.z2 1 rfl;have C3:=d1h (c:=ca) no (H.oldInts 5 rfl) hno4
   go_wp2_with fail
   refine C3.mono ?_;rintro e3 w3 ⟨⟨b3,rfl,hb⟩,rfl⟩;have HB:=Hd hb;clear hb C3
   cases b3
   case false =>
    have HX:=Hd (b7n HBO (fun hc=>by have:=HB.out.2 (by have:=(d3g.1 hc).1;rwa [HLo.out] at this);cases this));obtain⟨r0,r1,fr0,fr1⟩:=H.b2 0;clear t0 t1;go_wp2;rw[HX.out];exact sN2 H 0 1 results65
   case true =>
    have HRI:=Hd (show Rise a o.length by rw[HLo.out];exact HB.out.1 rfl);clear HB;have C4:=d1s (cs:=c) (co:=co) (ca:=ca) (H.oldInts 2 rfl) (H.oldInts 4 rfl) (H.oldInts 5 rfl) HRI
    go_wp2_with fail
    refine C4.mono ?_;rintro e3 w3 ⟨⟨b4,rfl,hb⟩,q,rfl⟩;have HB:=Hd hb;replace H:=Hd (H.drewN q);clear hb C4 t0 t1;generalize w2.drewN q=w3 at *
    cases b4
    case false =>
     have HX:=Hd (b7n HBO (fun hc=>by have:=HB.out.2 (d3g.1 hc).2;cases this));obtain⟨r0,r1,fr0,fr1⟩:=H.b2 0;go_wp2;rw[HX.out];exact sN2 H 0 1 results65
    case true =>
     have HOK:=Hd (d3g.2 ⟨HRI,HB.out.1 rfl⟩);have hna:na=n:=by have:=HOK.out.1;have:=HSL.out;have:=HLa.out;omega
     subst hna;obtain⟨t0,t1⟩:=H.z2 1 rfl;have hm:=a0t underlying22 Tryz.infoInt (n:=no) (by omega);have h3:=H.noughts 3 no (by omega)
     go_upto_region 6 with fail
     generalize w3.alloc (.cells (noughts no) 3)=w4 at *;generalize w3.heap.size=gi at *;replace H:=Hd h3;clear h3 hm t0 t1;obtain⟨t0,t1⟩:=H.z2 2 rfl
     go_wp2_with fail
     refine(a6q (H.oldInts 3 rfl) HRS).mono ?_;rintro e4 w5 ⟨⟨v4,n4,rfl,hO⟩,hb4⟩;obtain⟨A4,c4,rfl,hc4,_,_⟩:=hO.form;have hn:na=n4:=by have:=hO.len;rw[Sh.strides_length] at this;have:=HSL.out;omega
     subst hn;replace H:=Hd (H.addOwn hb4 hO);clear hO hb4 hc4 t0 t1
     go_wp2_with fail
     go_loopw [41] (fun kv wr=>∃ k:Nat,kv=.int .i64 k∧k≤na∧Sep w wr [.own 3 (.slice A4 na c4) na (Sh.strides s),.own 3 (.slice (some ⟨gi,0,none⟩) no no) no (a4r (List.replicate no 0) a (Sh.strides s) k),.box (w.heap.size+1) 33 [.slice none 0 0,.slice none 0 0],.box w.heap.size 33 [.slice A na c,.slice B m e],.ints A na s,.ints B m d,.ints Ao no o,.ints Aa na a]) (fun kv _=>na-(intOf kv).toNat)
     case atStart=>exact⟨0,rfl,by omega,H⟩
     case round =>
      clear H;obtain⟨k,rfl,hk,hS⟩:=hrel;by_cases hlk:k<na
      ·obtain⟨aa,x,haA,_,hx,hcx,hfx⟩:=(hS.oldInts 7 rfl).at_ (k:=k) hlk;subst haA;have hxi:=d2s HOK hx;obtain⟨xn,rfl⟩:=eZ hxi.1;have hxn:xn<no:=by have:=HLo.out;omega
       obtain⟨ra,y,hrA,_,hy,hcy,hfy⟩:=((hS.ownInts 0 rfl).2.2).at_ (k:=k) hlk;subst hrA;obtain⟨z,hz⟩:=a0f (l:=a4r (List.replicate no 0) a (Sh.strides s) k) (k:=xn) (by rw[a5q,List.length_replicate];exact hxn);have hcz:=(hS.own 1 rfl).cell hz;have hfz:=(hS.own 1 rfl).frozen xn;have hS2:=hS.store 1 xn hfy rfl;have hss:=a4y (f:=List.replicate no 0) hx hy;rw[Int.toNat_natCast] at hss;rw[hss] at hS2;have HS2:=Hd hS2;clear hS hS2 hss hz hx hy hxi hfx hfy;go_wp2;go_roundw
       case rel=>exact⟨k+1,by go_num,by omega,HS2⟩
       case measure=>simp[intOf];omega
      ·have hkn:na=k:=by omega
       subst hkn;rw[show a4r (List.replicate no 0) a (Sh.strides s) na=spSt s o a by rw[spSt,HLo.out,HLa.out]] at hS;have H:=Hd hS;clear hS;obtain⟨hld,hcd⟩:=e1j HRT HOK;rw[HLo.out] at hld hcd;have HLD:=Hd hld;have HQ:=Hd (show spR s d o a=(0,o,c0j d o (List.replicate no 0) (spSt s o a)) from by rw[d5q HBO.out HOK.out,hcd]);have HSP:=Hd (d6h HRS HOK);clear hld hcd;have hm:=a0t underlying22 Tryz.infoInt (n:=no) (by omega)
       go_upto_region 11 with fail
       obtain⟨t0,t1⟩:=H.z2 3 rfl;have H5:=Hd (H.drew.noughts 3 no (by omega));have j0:(wr.drew.alloc (.cells (noughts no) 3)).cell? ⟨w.heap.size,0,none⟩=some (.slice A na c):=H5.c 4 0;have j1:(wr.drew.alloc (.cells (noughts no) 3)).cell? ⟨w.heap.size,1,none⟩=some (.slice B m e):=H5.c 4 1
       go_region_held3 (fun w'=>w'.cell? ⟨w.heap.size,0,none⟩=some (.slice A na c)∧w'.cell? ⟨w.heap.size,1,none⟩=some (.slice B m e)) (go_keep)
        (first|(go_at_call 110;refine(b8y (a1s (H5.oldInts 5 rfl) hnc (H5.oldInts 6 rfl) hme) (H5.oldInts 7 rfl) (H5.ownInts 0 rfl).2.2 (H5.ownInts 2 rfl).2.2 HRO (c6g no) HSP HLD).mono ?_;rintro e7 w7 ⟨⟨u7,rfl,hu7⟩,hb7⟩;obtain⟨S7,ns7,sc7,D7,nd7,dc7,rfl,H7,r0,r1,fr0,fr1,H8⟩:=H5.aB 3 hb7 hu7;obtain⟨m0,m1⟩:=H7.z2 6 rfl;have k0:((w7.setCell ⟨w.heap.size+1,0,none⟩ (.slice S7 ns7 sc7)).setCell ⟨w.heap.size+1,1,none⟩ (.slice D7 nd7 dc7)).cell? ⟨w.heap.size,0,none⟩=some (.slice A na c):=H8.c 6 0;have k1:((w7.setCell ⟨w.heap.size+1,0,none⟩ (.slice S7 ns7 sc7)).setCell ⟨w.heap.size+1,1,none⟩ (.slice D7 nd7 dc7)).cell? ⟨w.heap.size,1,none⟩=some (.slice B m e):=H8.c 6 1;clear hu7 hb7)|fail)
       go_wp2;rw[HQ.out];exact sY2 H8 5 0 1 (.int .i64 0) results65
theorem d3p {Al Ah:Option Addr}{nl cl nh ch:Nat}{lo hi:List Int}(x0:Int)(h:Ten w v s d)(hL:Ints w Al nl lo)(hH:Ints w Ah nh hi)(hx0:Fits x0):
  Calls prog 68 #[v,.slice Al nl cl,.slice Ah nh ch,.int .i64 x0] w fun e w'=>(∃ u,e=.returned (.tuple #[u,.int .i64 (padR s d lo hi x0).1])∧OTen w' w.heap.size u (padR s d lo hi x0).2.1 (padR s d lo hi x0).2.2)∧Below w.heap.size w w':=by
 obtain⟨A,n,c,B,m,e,rfl,hnc,hme,hI,hJ⟩:=h;have h1:=((((((Sep.nil w).old hH).old hL).old hJ).old hI).allocBox w.heap.size 33 [.slice A n c,.slice B m e] rfl).allocBox (w.heap.size+1) 33 [.slice none 0 0,.slice none 0 0] (by simp);have hsl:=hI.len;have hnle:=hI.le;have hmle:=hJ.le;have HFD:=Hd hJ.fit;have HDL:=Hd hJ.len;have hllo:=hL.len;have hlelo:=hL.le;have hlhi:=hH.len;have hlehi:=hH.le
 go_enter func68,ntmps68
 go_upto_region 1 with fail
 generalize (w.alloc (.cells #[.slice A n c,.slice B m e] 33)).alloc (.cells #[.slice none 0 0,.slice none 0 0] 33)=W at *;have H:=Hd h1;clear h1 hI hJ hL hH;have HSL:=Hd hsl;clear hsl;have HLlo:=Hd hllo;clear hllo;have HLhi:=Hd hlhi;clear hlhi;have hT:=a1s (H.oldInts 2 rfl) hnc (H.oldInts 3 rfl) hme;have C1:=a2q hT;have HT:=Hd hT;clear hT;obtain⟨t0,t1⟩:=H.z2 1 rfl
 go_wp2_with fail
 cases hr:a0a s d with
 | false =>
  rw[hr] at C1;refine C1.mono ?_;rintro e2 w2 ⟨rfl,hb2⟩;replace H:=Hd (H.below hb2);have HX:=Hd (c0y (lo:=lo) (hi:=hi) (n:=x0) hr);obtain⟨r0,r1,fr0,fr1⟩:=H.b2 0;clear hb2 hr C1 t0 t1;go_wp2;rw[HX.out]
  exact sN2 H 0 13 results68
 | true =>
  rw[hr] at C1;refine C1.mono ?_;rintro e2 w2 ⟨rfl,hb2⟩;replace H:=Hd (H.below hb2);have HRT:=Hd hr;have HRS:=Hd (a1p hr);clear hb2 hr C1 t0 t1 HT;have hn4:n≤4:=by have:=(a1f HRT).1;have:=HSL.out;omega
  obtain⟨t0,t1⟩:=H.z2 1 rfl;have C2:=b9m (c:=cl) n (H.oldInts 4 rfl) hn4;have C3:=b9m (c:=ch) n (H.oldInts 5 rfl) hn4
  go_wp2_with fail
  refine C2.mono ?_;rintro e3 w3 ⟨⟨b3,rfl,hb⟩,rfl⟩;have HB:=Hd hb;clear hb C2
  cases b3
  case false =>
   have HX:=Hd (b3w (lo:=lo) (hi:=hi) (n:=x0) HRT (fun hc=>by have:=HB.out.2 (by have:=(c6v.1 hc).1;rwa [HSL.out] at this);cases this));obtain⟨r0,r1,fr0,fr1⟩:=H.b2 0;clear C3 t0 t1;go_wp2;rw[HX.out];exact sN2 H 0 1 results68
  case true =>
   have HLO:=Hd (HB.out.1 rfl);clear HB
   go_wp2_with fail
   refine C3.mono ?_;rintro e3 w3 ⟨⟨b4,rfl,hb⟩,rfl⟩;have HB:=Hd hb;clear hb C3 t0 t1
   cases b4
   case false =>
    have HX:=Hd (b3w (lo:=lo) (hi:=hi) (n:=x0) HRT (fun hc=>by have:=HB.out.2 (by have:=(c6v.1 hc).2;rwa [HSL.out] at this);cases this));obtain⟨r0,r1,fr0,fr1⟩:=H.b2 0;go_wp2;rw[HX.out];exact sN2 H 0 1 results68
   case true =>
    have HOK:=Hd (show b3c s lo hi from c6v.2 ⟨by rw[HSL.out];exact HLO,by rw[HSL.out];exact HB.out.1 rfl⟩);clear HLO HB;have h1:nl=n:=by have:=HOK.out.1;have:=HSL.out;have:=HLlo.out;omega
    have h2:nh=n:=by have:=HOK.out.2.1;have:=HSL.out;have:=HLhi.out;omega
    subst h1;subst h2;obtain⟨t0,t1⟩:=H.z2 1 rfl;have hm:=a0t underlying22 Tryz.infoInt (n:=nh) (by omega);have h3:=H.noughts 3 nh (by omega)
    go_upto_region 6 with fail
    generalize w2.alloc (.cells (noughts nh) 3)=w4 at *;generalize w2.heap.size=gi at *;replace H:=Hd h3;clear h3 hm t0 t1;obtain⟨t0,t1⟩:=H.z2 2 rfl;have HPL:=Hd (show(padS s lo hi).length=nh by rw[a7o HOK.out.1 HOK.out.2.1];exact HSL)
    go_wp2_with fail
    clear t0 t1
    go_loopw [41] (fun kv wr=>∃ j:Nat,kv=.int .i64 j∧j≤nh∧Sep w wr [.own 3 (.slice (some ⟨gi,0,none⟩) nh nh) nh (mix (padS s lo hi) (List.replicate nh 0) j),.box (w.heap.size+1) 33 [.slice none 0 0,.slice none 0 0],.box w.heap.size 33 [.slice A nh c,.slice B m e],.ints A nh s,.ints B m d,.ints Al nh lo,.ints Ah nh hi]) (fun kv _=>nh-(intOf kv).toNat)
    case atStart=>exact⟨0,rfl,by omega,by rw[a2p];exact H⟩
    case round =>
     clear H;obtain⟨j,rfl,hj,hS⟩:=hrel;by_cases hlt:j<nh
     ·obtain⟨la,x,hlA,_,hx,hcx,hfx⟩:=(hS.oldInts 5 rfl).at_ (k:=j) hlt;obtain⟨ha,y,hhA,_,hy,hcy,hfy⟩:=(hS.oldInts 6 rfl).at_ (k:=j) hlt;obtain⟨sa,z,hsA,_,hz,hcz,hfz⟩:=(hS.oldInts 3 rfl).at_ (k:=j) hlt;subst hlA;subst hhA;subst hsA;have hzb:=(Sh.right_iff.1 HRS).2.1 z (mG hz);have hxy:=HOK.out.2.2 j x y hx hy;have hw1:IntKind.i64.wrap (x+z)=x+z:=IntWalk.i64_in _ ⟨by omega,by omega⟩;have hw2:IntKind.i64.wrap (x+z+y)=x+z+y:=IntWalk.i64_in _ ⟨by omega,by omega⟩;have hcp:=(hS.own 0 rfl).cell (a4o (c:=0) HPL hlt);have hfp:=(hS.own 0 rfl).frozen j;have hS2:=hS.store 0 j (x:=x+z+y) ⟨by omega,by omega⟩ rfl;rw[a3i HPL.out (c2t hx hz hy)] at hS2;have HS2:=Hd hS2;clear hS hS2 hx hy hz hzb hxy hfx hfy hfz
      go_upto_region 9 with fail
      go_still_tail 14,(by kernel_rfl)
      change wpList _ _ _ _ _ wr.drew;have hcp1:wr.drew.cell? ⟨gi,j,none⟩=some (.int .i64 0):=hcp;have hfp1:wr.drew.frozen? ⟨gi,j,none⟩=false:=hfp;go_wp2;go_roundw
      case rel=>exact⟨j+1,by go_num,by omega,HS2.drew⟩
      case measure=>simp[intOf];omega
     ·have hjn:nh=j:=by omega
      subst hjn;rw[a4n HPL.out] at hS;have H:=Hd hS;clear hS
      cases ho:Sh.right (padS s lo hi) with
      | false =>
       have C4:=b7u x0 (c:=nh) ((H.ownInts 0 rfl).2.2) hx0 ho;have HX:=Hd (b2s (d:=d) (n:=x0) HRT HOK ho)
       go_wp2_with fail
       refine C4.mono ?_;rintro e5 w5 ⟨⟨u5,rfl,hu5⟩,hb5⟩;obtain⟨S5,n5,sc5,D5,N5,dc5,rfl,hs5,hd5,_,_,_,h5⟩:=H.addTen hb5 hu5;have h6:=h5.allocBox w5.heap.size 33 [.slice S5 n5 sc5,.slice D5 N5 dc5] rfl;clear hu5 hb5 h5 hs5 hd5 C4 ho
       go_upto_region 12 with fail
       generalize w5.alloc (.cells #[.slice S5 n5 sc5,.slice D5 N5 dc5] 33)=w6 at *;replace H:=Hd h6;clear h6;obtain⟨r0,r1,fr0,fr1⟩:=H.b2 4;go_wp2;rw[HX.out]
       exact sN2 H 4 13 results68
      | true =>
       have HRP:=Hd ho;have C4:=b3n x0 (c:=nh) ((H.ownInts 0 rfl).2.2) hx0 ho;obtain⟨N,hN⟩:=eZ (Sh.size_bd (padS s lo hi)).1;have hN4:N≤4096:=by have:=(Sh.size_bd (padS s lo hi)).2;omega
       rw[hN,Int.toNat_natCast] at C4;obtain⟨hld,hcd,hnf⟩:=d9l HRT HOK ho x0;rw[hN,Int.toNat_natCast] at hld hcd;have HLD:=Hd hld;have HNF:=Hd hnf;have HQ:=Hd (show padR s d lo hi x0=(0,padS s lo hi,layD (List.replicate N x0) d s lo (padS s lo hi) m) from by rw[c8d HRT.out HOK.out ho,hcd,HDL.out]);clear hld hcd hnf ho hN
       go_wp2_with fail
       refine C4.mono ?_;rintro e5 w5 ⟨⟨u5,rfl,hu5⟩,hb5⟩;obtain⟨S1,ns,sc,D1,N1,dc,rfl,hs5,hd5,hsc,hdc,hNle,h5⟩:=H.addTen hb5 hu5;rw[List.length_replicate] at hd5;subst hd5;have hns:nh=ns:=by have:=HPL.out;omega
       subst hns;have h6:=h5.allocBox w5.heap.size 33 [.slice S1 nh sc,.slice D1 N dc] rfl;clear hu5 hb5 h5 hs5 C4
       go_upto_region 12 with fail
       generalize w5.alloc (.cells #[.slice S1 nh sc,.slice D1 N dc] 33)=w6 at *;generalize w5.heap.size=gt at *;replace H:=Hd h6;clear h6;obtain⟨o0,o1⟩:=H.z2 0 rfl;obtain⟨t0,t1⟩:=H.z2 5 rfl
       go_wp2_with fail
       refine(d5k H 2 1 8 6 7 rfl rfl rfl rfl rfl (by decide) (fun w' h=>h.1) HRS HRP HNF (by have:=a0z HRT;have:=HDL.out;omega) rfl HLD).mono ?_;rintro e8 w8 ⟨rfl,h8⟩;replace H:=Hd (show Sep w w8 [.box gt 33 [.slice S1 nh sc,.slice D1 N dc],.own 3 (.slice S1 nh sc) nh (padS s lo hi),.own 2 (.slice D1 N dc) N (layD (List.replicate N x0) d s lo (padS s lo hi) m),.own 3 (.slice (some ⟨gi,0,none⟩) nh nh) nh (padS s lo hi),.box (w.heap.size+1) 33 [.slice none 0 0,.slice none 0 0],.box w.heap.size 33 [.slice A nh c,.slice B m e],.ints A nh s,.ints B m d,.ints Al nh lo,.ints Ah nh hi] from h8);clear h8 o0 o1 t0 t1;obtain⟨o0,o1⟩:=H.z2 0 rfl;obtain⟨r0,r1,fr0,fr1⟩:=H.b2 4;go_wp2;rw[HQ.out];exact sY2 ((H.setBox 4 0 (.slice S1 nh sc) rfl).setBox 4 1 (.slice D1 N dc) rfl) 4 1 2 (.int .i64 0) results68
end Go.Proofs.YtjblengklgkgfaaGreat
