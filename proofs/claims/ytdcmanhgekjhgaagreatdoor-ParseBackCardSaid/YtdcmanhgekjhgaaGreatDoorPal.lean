import Derived.Test.YtdcmanhgekjhgaaGreatDoorPak
set_option maxRecDepth 100000
set_option maxHeartbeats 12800000
namespace Go.Proofs.YtdcmanhgekjhgaaGreatDoor
open Go.RowKit Go.Proofs.Tryz
variable {d s:List Int} {v:Value} {w:World}
theorem c6l {Aa:Option Addr}{na ca:Nat}{a:List Int}(h:Ten w v s d)(hA:Ints w Aa na a):
  Calls prog 82 #[v,.slice Aa na ca] w fun e w'=>(∃ u,e=.returned (.tuple #[u,.int .i64 (b3y s d a).1])∧OTen w' w.heap.size u (b3y s d a).2.1 (b3y s d a).2.2)∧Below w.heap.size w w':=by
 obtain⟨A,n,c,B,m,e,rfl,hnc,hme,hI,hJ⟩:=h;have h1:=(((((Sep.nil w).old hA).old hJ).old hI).allocBox w.heap.size 89 [.slice A n c,.slice B m e] rfl).allocBox (w.heap.size+1) 89 [.slice none 0 0,.slice none 0 0] (by simp);have hsl:=hI.len;have hnle:=hI.le;have hmle:=hJ.le;have HFD:=Hd hJ.fit;have HDL:=Hd hJ.len;have hla:=hA.len;have hlea:=hA.le
 go_enter func82,ntmps82
 go_upto_region 1 with fail
 generalize (w.alloc (.cells #[.slice A n c,.slice B m e] 89)).alloc (.cells #[.slice none 0 0,.slice none 0 0] 89)=W at *;have H:=Hd h1;clear h1 hI hJ hA;have HSL:=Hd hsl;clear hsl;have HLa:=Hd hla;clear hla;have hT:=a3z (H.oldInts 2 rfl) hnc (H.oldInts 3 rfl) hme;have C1:=a2c hT;have HT:=Hd hT;clear hT;obtain⟨t0,t1⟩:=H.z2 1 rfl
 go_wp2_with fail
 cases hr:a0b s d with
 | false =>
  rw[hr] at C1;refine C1.mono ?_;rintro e2 w2 ⟨rfl,hb2⟩;replace H:=Hd (H.below hb2);have HX:=Hd (c9v (a:=a) hr);obtain⟨r0,r1,fr0,fr1⟩:=H.b2 0;clear hb2 hr C1 t0 t1;go_wp2;rw[HX.out]
  exact sN2 H 0 13 results82
 | true =>
  rw[hr] at C1;refine C1.mono ?_;rintro e2 w2 ⟨rfl,hb2⟩;replace H:=Hd (H.below hb2);have HRT:=Hd hr;clear hb2 hr C1 t0 t1 HT;have hn4:n≤4:=by have:=(a3c HRT).1;have:=HSL.out;omega
  have hm:=a2z underlying25 Tryz.infoInt (n:=n) (by omega);have h3:=H.noughts 3 n (by omega);obtain⟨t0,t1⟩:=H.z2 1 rfl
  go_upto_region 4 with fail
  generalize w2.alloc (.cells (noughts n) 3)=w3 at *;generalize w2.heap.size=gi at *;replace H:=Hd h3;clear h3 hm t0 t1;by_cases hlen:na=n;rotate_left
  ·have HX:=Hd (b9v (a:=a) HRT (fun hc=>absurd hc.1 (by have:=HSL.out;have:=HLa.out;omega)));have hg:((na:Int) != (n:Int))=true:=by simp;omega
   clear hlen;obtain⟨r0,r1,fr0,fr1⟩:=H.b2 1;go_wp2;rw[HX.out];exact sN2 H 1 1 results82
  obtain rfl:na=n:=hlen;replace H:=Hd (H.addNil 3)
  go_wp2_with fail
  go_loopw [30,7] (fun kv vs wr=>∃ j:Nat,kv=.int .i64 j∧j≤na∧(∀ k,k<j→TuAt s a k)∧Sep w wr [.own 3 vs j ((a3u s a).take j),.own 3 (.slice (some ⟨gi,0,none⟩) na na) na (marks na (a.take j)),.box (w.heap.size+1) 89 [.slice none 0 0,.slice none 0 0],.box w.heap.size 89 [.slice A na c,.slice B m e],.ints A na s,.ints B m d,.ints Aa na a]) (fun kv _ _=>na-(intOf kv).toNat)
  case atStart=>exact⟨0,rfl,by omega,fun k hk=>by omega,by rw[List.take_zero,List.take_zero,d6x];exact H⟩
  case round =>
   clear H;obtain⟨j,rfl,hj,hall,hS⟩:=hrel;have HA:=Hd hall;clear hall;by_cases hlt:j<na
   ·obtain⟨aa,x,haA,_,hx,hcx,hfx⟩:=(hS.oldInts 6 rfl).at_ (k:=j) hlt;subst haA;have HE:=Hd hx;clear hx;have H:=Hd hS;clear hS;have HBAD:=Hd (fun (hbad:¬(0≤x∧x<na∧x∉a.take j))=>b9v (d:=d) HRT (fun hc=>hbad (by have:=hc.2 j x HE;rwa [HSL.out] at this)));obtain⟨hfx1,hfx2⟩:=hfx;by_cases g1:x<0
    ·have d1:decide (x<0)=true:=by simpa using g1
     have HX:=Hd (HBAD (by omega));obtain⟨r0,r1,fr0,fr1⟩:=H.b2 2;go_wp2;rw[HX.out];exact sN2 H 2 1 results82
    by_cases g2:(na:Int)≤x
    ·have d2:decide ((na:Int)≤x)=true:=by simpa using g2
     have HX:=Hd (HBAD (by omega));obtain⟨r0,r1,fr0,fr1⟩:=H.b2 2;go_wp2;rw[HX.out];exact sN2 H 2 1 results82
    obtain⟨xn,rfl⟩:=eZ (by omega:0≤x);have hxn:xn<na:=by omega
    have e2:decide (na≤xn)=false:=by simp;omega
    have hmk:=d1f (n:=na) (l:=a.take j) (x:=(xn:Int)) (by omega) (by omega);rw[Int.toNat_natCast] at hmk;have hci:=(H.own 1 rfl).cell hmk;have hfi:=(H.own 1 rfl).frozen xn;clear hmk;by_cases g3:(xn:Int)∈a.take j
    ·rw[iP g3] at hci;have HX:=Hd (HBAD (fun hh=>hh.2.2 g3));obtain⟨r0,r1,fr0,fr1⟩:=H.b2 2;go_wp2;rw[HX.out];exact sN2 H 2 1 results82
    rw[iN g3] at hci;have HG3:=Hd g3;clear g3 HBAD;obtain⟨sa,y,hsA,_,hy,hcy,hfy⟩:=(H.oldInts 4 rfl).at_ (k:=xn) hxn;subst hsA;have HY:=Hd hy;have HF:=Hd hfy;clear hy hfy;have hS2:=H.store 1 xn (x:=1) ⟨by omega,by omega⟩ rfl;have hms:=d6y (n:=na) (l:=a.take j) (x:=(xn:Int)) (by omega) (by omega);rw[Int.toNat_natCast] at hms;rw[hms] at hS2;have hS3:=hS2;clear hS2 hms
    go_upto_region 13 with fail
    generalize wr.setCell ⟨gi,xn,none⟩ (.int .i64 1)=w8 at *;have H8:=Hd hS3.drew;have t0:=hS3.c 3 0;have hcx8:=(hS3.oldInts 6 rfl).get HE;have hcy8:=(hS3.oldInts 4 rfl).get HY;clear hS3 hci hfi hcx hcy
    go_region_law (refine a0n rfl (.tmp 67) (.tmp 76) 25 3 rfl underlying25 Tryz.infoInt H8.out 0 rfl rfl y HF.out _ rfl ?_ ?_;(focus omega);intro v' w' h';have H9:=Hd h';clear h')
    all_goals (
     clear t0 hcx8 hcy8;go_wp2;go_roundw
     case rel=>exact⟨j+1,by go_num,by omega,fun k hk=>by
      rcases Nat.lt_or_ge k j with h' | h'
      ·exact HA k h'
      ·obtain rfl:k=j:=by omega
       intro x hx;rw[HE.out] at hx;injection hx with hx;subst hx
       exact⟨by omega,by rw[HSL.out];omega,HG3⟩,
      by rw[←d4l HE.out (by rw[Int.toNat_natCast];exact HY.out),List.take_add_one,HE.out];exact H9⟩
     case measure=>simp[intOf];omega)
   ·have hjn:na=j:=by omega
    subst hjn;rw[show(a3u s a).take na=a3u s a from List.take_of_length_le (by rw[a4a];have:=HLa.out;omega)] at hS;have HOK:=Hd (show TuOk s a from⟨by have:=HSL.out;have:=HLa.out;omega,fun k x hx=>HA.out k (by have:=(lL hx);have:=HLa.out;omega) x hx⟩);obtain⟨At,ct,hvt,hct,_,_⟩:=(hS.ownS 0 rfl).form;subst hvt;have H:=Hd hS;clear hS HA hlt
    go_wp2_with fail
    refine(a1t 0 ((H.ownInts 0 rfl).2.2) (by omega) ⟨by omega,by omega⟩).mono ?_;rintro e4 w4 ⟨⟨u,rfl,hu⟩,hb4⟩;obtain⟨S1,ns,sc,D1,N,dc,rfl,hs1,hd1,hsc,hdc,hNle,h5⟩:=H.addTen hb4 hu;rw[List.length_replicate] at hd1;rw[hd1] at h5;obtain⟨tgt,htg⟩:∃ t,d9k s d a=t:=⟨_,rfl⟩;have HTL:=Hd (show tgt.length=N by rw[←htg,d9k,a5u,hd1]);have HAT:=Hd (show ∀ i:Nat,i<N→tgt[i]?=some (num s d (c0u s.length a (Sh.placeOf (a3u s a) i))) from fun i hi=>by rw[←htg,d9k];exact b3a (by omega));have HSZ:=Hd (show ∀ i:Nat,i<N→(i:Int)<Sh.size (a3u s a) from fun i hi=>by have:=Sh.size_bd (a3u s a);omega);have HQ:=Hd ((d1y HRT HOK).trans (by rw[htg]));clear htg;have h6:=h5.allocBox w4.heap.size 89 [.slice S1 ns sc,.slice D1 N dc] rfl;clear hu hb4 h5 hd1 hs1
    go_upto_region 16 with fail
    generalize w4.alloc (.cells #[.slice S1 ns sc,.slice D1 N dc] 89)=w5 at *;generalize w4.heap.size=gt at *;replace H:=Hd h6;clear h6;obtain⟨o0,o1⟩:=H.z2 0 rfl
    go_wp2_with fail
    clear o0 o1
    go_loopw [84] (fun kv wr=>∃ i:Nat,kv=.int .i64 i∧i≤N∧Sep w wr [.box gt 89 [.slice S1 ns sc,.slice D1 N dc],.own 3 (.slice S1 ns sc) ns (a3u s a),.own 2 (.slice D1 N dc) N (mix tgt (List.replicate N 0) i),.own 3 (.slice At na ct) na (a3u s a),.own 3 (.slice (some ⟨gi,0,none⟩) na na) na (marks na (a.take na)),.box (w.heap.size+1) 89 [.slice none 0 0,.slice none 0 0],.box w.heap.size 89 [.slice A na c,.slice B m e],.ints A na s,.ints B m d,.ints Aa na a]) (fun kv _=>N - (intOf kv).toNat)
    case atStart=>exact⟨0,rfl,by omega,by rw[a4v];exact H⟩
    case round =>
     clear H;obtain⟨i,rfl,hi,hS⟩:=hrel;have H:=Hd hS;clear hS;by_cases hli:i<N
     ·have hiz:=HSZ.out i hli
      go_wp2_with fail
      refine(a3l i ((H.ownInts 3 rfl).2.2) ⟨by omega,by omega⟩).mono ?_;rintro e6 w6 ⟨⟨v,n6,rfl,hO⟩,hb6⟩;obtain⟨A6,c6,rfl,hc6,_,_⟩:=hO.form;obtain⟨_,hpl,hpw,_⟩:=a1q hiz;have hp6:na=n6:=by have:=hO.len;have:=HLa.out;rw[a4a] at hpl;omega
      replace H:=Hd (H.addOwn hb6 hO);obtain⟨P,hP⟩:∃ P,Sh.placeOf (a3u s a) i=P:=⟨_,rfl⟩;rw[hP] at H hpl;have HP:=Hd hP;have HPL:=Hd (show P.length=na by have:=HLa.out;rw[a4a] at hpl;omega);subst hp6;clear hb6 hO hP hpl hpw hc6;have hm:=a2z underlying25 Tryz.infoInt (n:=na) (by omega);have h3:=H.noughts 3 na (by omega)
      go_upto_region 21 with fail
      generalize w6.alloc (.cells (noughts na) 3)=w7 at *;generalize w6.heap.size=gf at *;replace H:=Hd h3;clear h3 hm
      go_wp2_with fail
      go_loopw [95] (fun kv wr=>∃ k:Nat,kv=.int .i64 k∧k≤na∧Sep w wr [.own 3 (.slice (some ⟨gf,0,none⟩) na na) na (b0o (List.replicate na 0) a P k),.own 3 (.slice A6 na c6) na P,.box gt 89 [.slice S1 ns sc,.slice D1 N dc],.own 3 (.slice S1 ns sc) ns (a3u s a),.own 2 (.slice D1 N dc) N (mix tgt (List.replicate N 0) i),.own 3 (.slice At na ct) na (a3u s a),.own 3 (.slice (some ⟨gi,0,none⟩) na na) na (marks na (a.take na)),.box (w.heap.size+1) 89 [.slice none 0 0,.slice none 0 0],.box w.heap.size 89 [.slice A na c,.slice B m e],.ints A na s,.ints B m d,.ints Aa na a]) (fun kv _=>na-(intOf kv).toNat)
      case atStart=>exact⟨0,rfl,by omega,H⟩
      case round =>
       clear H;obtain⟨k,rfl,hk,hS⟩:=hrel;by_cases hlk:k<na
       ·obtain⟨aa,x,haA,_,hx,hcx,hfx⟩:=(hS.oldInts 11 rfl).at_ (k:=k) hlk;subst haA;have hxi:=b9u HOK hx;obtain⟨xn,rfl⟩:=eZ hxi.1;have hxn:xn<na:=by have:=HSL.out;omega
        obtain⟨pa,y,hpA,_,hy,hcy,hfy⟩:=((hS.ownInts 1 rfl).2.2).at_ (k:=k) hlk;subst hpA;obtain⟨z,hz⟩:=a0h (l:=b0o (List.replicate na 0) a P k) (k:=xn) (by rw[a9h,List.length_replicate];exact hxn);have hcz:=(hS.own 0 rfl).cell hz;have hfz:=(hS.own 0 rfl).frozen xn;have hS2:=hS.store 0 xn hfy rfl;have hss:=b9m (f:=List.replicate na 0) hx hy;rw[Int.toNat_natCast] at hss;rw[hss] at hS2;have HS2:=Hd hS2;clear hS hS2 hss hz hx hy hxi hfx hfy
        go_upto_region 24 with fail
        go_still_tail 10,(by kernel_rfl)
        change wpList _ _ _ _ _ wr.drew;have hcz1:wr.drew.cell? ⟨gf,xn,none⟩=some (.int .i64 z):=hcz;have hfz1:wr.drew.frozen? ⟨gf,xn,none⟩=false:=hfz;go_wp2;go_roundw
        case rel=>exact⟨k+1,by go_num,by omega,HS2.drew⟩
        case measure=>simp[intOf];omega
       ·have hkn:na=k:=by omega
        subst hkn;rw[show b0o (List.replicate na 0) a P na=c0u s.length a P by rw[c0u,HSL.out,HLa.out]] at hS;obtain⟨gb,cb,hv,hO⟩:=(hS.ownS 4 rfl).own (by omega);injection hv with hv1 _ hv3
        subst hv1;subst hv3;have H:=Hd hS;obtain⟨o0,o1⟩:=H.z2 2 rfl;obtain⟨t0,t1⟩:=H.z2 8 rfl;have hwi:=c9w HOK hiz;rw[HP.out] at hwi;obtain⟨X,hX⟩:∃ X,num s d (c0u s.length a P)=X:=⟨_,rfl⟩;have hfX:Fits X:=by rw[←hX];exact b6l HFD
        have C1:=a2l (w:=wr.drew) (c:=na) (a3z (H.oldInts 9 rfl) hnc (H.oldInts 10 rfl) hme) (H.ownInts 0 rfl).2.2 HRT hwi.1 hwi.2;rw[hX] at C1;have HTX:=Hd (show tgt[i]?=some X by rw[HAT.out i hli,HP.out,hX]);clear hS hO hwi hX o0;have HM:=Hd (a8e (c:=0) HTL hli);have HFX:=Hd hfX;clear hfX
        go_upto_region 26 with fail
        go_region_held3 (fun w'=>w'.cell? ⟨gt,1,none⟩=some (.slice (some ⟨gb,0,none⟩) N dc)∧w'.cell? ⟨w.heap.size,0,none⟩=some (.slice A na c)∧w'.cell? ⟨w.heap.size,1,none⟩=some (.slice B m e)) (go_keep)
         (first|(go_at_call 114;refine C1.mono ?_;rintro e7 w7 ⟨rfl,hb7⟩;have H7:=Hd (H.drew.below hb7);have m0:=H7.c 2 1;obtain⟨m1,m2⟩:=H7.z2 8 rfl;have hcs:=(H7.own 4 rfl).cell HM;have hfs:=(H7.own 4 rfl).frozen i;have HS7:=Hd (H7.store 4 i HFX rfl);have k0:(w7.setCell ⟨gb,i,none⟩ (.int .i64 X)).cell? ⟨gt,1,none⟩=some (.slice (some ⟨gb,0,none⟩) N dc):=HS7.c 2 1;have k1:(w7.setCell ⟨gb,i,none⟩ (.int .i64 X)).cell? ⟨w.heap.size,0,none⟩=some (.slice A na c):=HS7.c 8 0;have k2:(w7.setCell ⟨gb,i,none⟩ (.int .i64 X)).cell? ⟨w.heap.size,1,none⟩=some (.slice B m e):=HS7.c 8 1))
        clear o1 t0 t1 m0 m1 m2 k0 k1 k2 hcs hfs;go_wp2;go_roundw
        case rel=>exact⟨i+1,by go_num,by omega,by rw[←a5n HTL.out HTX.out];exact HS7.sub [2,3,4,5,6,7,8,9,10,11] rfl (by decide)⟩
        case measure=>simp[intOf];omega
     ·have hin:N=i:=by omega
      subst hin;rw[a8d HTL.out] at H;obtain⟨o0,o1⟩:=H.z2 0 rfl;obtain⟨r0,r1,fr0,fr1⟩:=H.b2 5;go_wp2;rw[HQ.out];exact sY2 ((H.setBox 5 0 (.slice S1 ns sc) rfl).setBox 5 1 (.slice D1 N dc) rfl) 5 1 2 (.int .i64 0) results82
theorem c9k {Al Ah:Option Addr}{nl cl nh ch:Nat}{lo hi:List Int}(x0:Int)(h:Ten w v s d)(hL:Ints w Al nl lo)(hH:Ints w Ah nh hi)(hx0:Fits x0):
  Calls prog 85 #[v,.slice Al nl cl,.slice Ah nh ch,.int .i64 x0] w fun e w'=>(∃ u,e=.returned (.tuple #[u,.int .i64 (padR s d lo hi x0).1])∧OTen w' w.heap.size u (padR s d lo hi x0).2.1 (padR s d lo hi x0).2.2)∧Below w.heap.size w w':=by
 obtain⟨A,n,c,B,m,e,rfl,hnc,hme,hI,hJ⟩:=h;have h1:=((((((Sep.nil w).old hH).old hL).old hJ).old hI).allocBox w.heap.size 89 [.slice A n c,.slice B m e] rfl).allocBox (w.heap.size+1) 89 [.slice none 0 0,.slice none 0 0] (by simp);have hsl:=hI.len;have hnle:=hI.le;have hmle:=hJ.le;have HFD:=Hd hJ.fit;have HDL:=Hd hJ.len;have hllo:=hL.len;have hlelo:=hL.le;have hlhi:=hH.len;have hlehi:=hH.le
 go_enter func85,ntmps85
 go_upto_region 1 with fail
 generalize (w.alloc (.cells #[.slice A n c,.slice B m e] 89)).alloc (.cells #[.slice none 0 0,.slice none 0 0] 89)=W at *;have H:=Hd h1;clear h1 hI hJ hL hH;have HSL:=Hd hsl;clear hsl;have HLlo:=Hd hllo;clear hllo;have HLhi:=Hd hlhi;clear hlhi;have hT:=a3z (H.oldInts 2 rfl) hnc (H.oldInts 3 rfl) hme;have C1:=a2c hT;have HT:=Hd hT;clear hT;obtain⟨t0,t1⟩:=H.z2 1 rfl
 go_wp2_with fail
 cases hr:a0b s d with
 | false =>
  rw[hr] at C1;refine C1.mono ?_;rintro e2 w2 ⟨rfl,hb2⟩;replace H:=Hd (H.below hb2);have HX:=Hd (d3n (lo:=lo) (hi:=hi) (n:=x0) hr);obtain⟨r0,r1,fr0,fr1⟩:=H.b2 0;clear hb2 hr C1 t0 t1;go_wp2;rw[HX.out]
  exact sN2 H 0 13 results85
 | true =>
  rw[hr] at C1;refine C1.mono ?_;rintro e2 w2 ⟨rfl,hb2⟩;replace H:=Hd (H.below hb2);have HRT:=Hd hr;clear hb2 hr C1 t0 t1 HT;have hn4:n≤4:=by have:=(a3c HRT).1;have:=HSL.out;omega
  obtain⟨t0,t1⟩:=H.z2 1 rfl;by_cases hlen:nl=n∧nh=n;rotate_left
  ·have HX:=Hd (c3l (lo:=lo) (hi:=hi) (n:=x0) HRT (fun hc=>by have:=hc.1;have:=hc.2.1;have:=HSL.out;have:=HLlo.out;have:=HLhi.out;omega));have hg:((nl:Int) != (n:Int))=true∨(((nl:Int) != (n:Int))=false∧((nh:Int) != (n:Int))=true):=by simp;omega
   clear hlen;obtain⟨r0,r1,fr0,fr1⟩:=H.b2 0;rcases hg with hg|⟨hg,hg2⟩
   all_goals (
    go_wp2;rw[HX.out]
    exact sN2 H 0 1 results85)
  obtain⟨rfl,rfl⟩:=hlen;replace H:=Hd (H.addNil 3)
  go_wp2_with fail
  go_loopw [37,10] (fun kv vs wr=>∃ j:Nat,kv=.int .i64 j∧j≤nh∧(∀ k,k<j→e6c lo hi k)∧Sep w wr [.own 3 vs j ((padS s lo hi).take j),.box (w.heap.size+1) 89 [.slice none 0 0,.slice none 0 0],.box w.heap.size 89 [.slice A nh c,.slice B m e],.ints A nh s,.ints B m d,.ints Al nh lo,.ints Ah nh hi]) (fun kv _ _=>nh-(intOf kv).toNat)
  case atStart=>exact⟨0,rfl,by omega,fun k hk=>by omega,H⟩
  case round =>
   clear H;obtain⟨j,rfl,hj,hall,hS⟩:=hrel;have HA:=Hd hall;clear hall;by_cases hlt:j<nh
   ·obtain⟨la,x,hlA,_,hx,hcx,hfx⟩:=(hS.oldInts 5 rfl).at_ (k:=j) hlt;obtain⟨ha,y,hhA,_,hy,hcy,hfy⟩:=(hS.oldInts 6 rfl).at_ (k:=j) hlt;obtain⟨sa,z,hsA,_,hz,hcz,hfz⟩:=(hS.oldInts 3 rfl).at_ (k:=j) hlt;subst hlA;subst hhA;subst hsA;have hzb:=(Sh.right_iff.1 (a3o HRT)).2.1 z (mG hz);have HE:=Hd (⟨hx,hy,hz⟩:_∧_∧_);clear hx hy hz hfz;have H:=Hd hS;clear hS;have HBAD:=Hd (fun (hbad:¬(0≤x∧0≤y∧x≤32∧y≤32))=>c3l (n:=x0) (d:=d) (lo:=lo) (hi:=hi) HRT (fun hc=>hbad (hc.2.2 j x y HE.out.1 HE.out.2.1)));obtain⟨hfx1,hfx2⟩:=hfx;obtain⟨hfy1,hfy2⟩:=hfy;by_cases g0:x<0
    ·have d0:decide (x<0)=true:=by simpa using g0
     have HX:=Hd (HBAD (by omega));obtain⟨r0,r1,fr0,fr1⟩:=H.b2 1;go_wp2;rw[HX.out];exact sN2 H 1 1 results85
    have d0:decide (x<0)=false:=by simpa using g0
    by_cases g1:y<0
    ·have d1:decide (y<0)=true:=by simpa using g1
     have HX:=Hd (HBAD (by omega));obtain⟨r0,r1,fr0,fr1⟩:=H.b2 1;go_wp2;rw[HX.out];exact sN2 H 1 1 results85
    have d1:decide (y<0)=false:=by simpa using g1
    by_cases g2:32<x
    ·have d2:decide (32<x)=true:=by simpa using g2
     have HX:=Hd (HBAD (by omega));obtain⟨r0,r1,fr0,fr1⟩:=H.b2 1;go_wp2;rw[HX.out];exact sN2 H 1 1 results85
    have d2:decide (32<x)=false:=by simpa using g2
    by_cases g3:32<y
    ·have d3:decide (32<y)=true:=by simpa using g3
     have HX:=Hd (HBAD (by omega));obtain⟨r0,r1,fr0,fr1⟩:=H.b2 1;go_wp2;rw[HX.out];exact sN2 H 1 1 results85
    have d3:decide (32<y)=false:=by simpa using g3
    clear HBAD;have hw1:IntKind.i64.wrap (x+z)=x+z:=IntWalk.i64_in _ ⟨by omega,by omega⟩;have hw2:IntKind.i64.wrap (x+z+y)=x+z+y:=IntWalk.i64_in _ ⟨by omega,by omega⟩
    go_upto_region 11 with fail
    have H8:=Hd H.drew;obtain⟨t0,t1⟩:=H.z2 2 rfl
    go_region_law (refine a0n rfl (.tmp 67) (.tmp 83) 25 3 rfl underlying25 Tryz.infoInt H8.out 0 rfl rfl (x+z+y) ⟨by omega,by omega⟩ _ rfl ?_ ?_;(focus omega);intro v' w' h';have H9:=Hd h';clear h')
    all_goals (
     clear t0 t1 hcx hcy hcz;go_wp2;go_roundw
     case rel=>exact⟨j+1,by go_num,by omega,fun k hk=>by
      rcases Nat.lt_or_ge k j with h' | h'
      ·exact HA k h'
      ·obtain rfl:k=j:=by omega
       intro x y hx hy;rw[HE.out.1] at hx;rw[HE.out.2.1] at hy;injection hx with hx;injection hy with hy;subst hx;subst hy
       exact⟨by omega,by omega,by omega,by omega⟩,
      by rw[←d7x HE.out.1 HE.out.2.2 HE.out.2.1];exact H9⟩
     case measure=>simp[intOf];omega)
   ·have hjn:nh=j:=by omega
    subst hjn;rw[show(padS s lo hi).take nh=padS s lo hi from List.take_of_length_le (by rw[a9d (by have:=HSL.out;have:=HLlo.out;omega) (by have:=HSL.out;have:=HLhi.out;omega)];have:=HSL.out;omega)] at hS;have HOK:=Hd (show b6c s lo hi from⟨by have:=HSL.out;have:=HLlo.out;omega,by have:=HSL.out;have:=HLhi.out;omega,fun k x y hx hy=>HA.out k (by have:=(lL hx);have:=HLlo.out;omega) x y hx hy⟩);obtain⟨At,ct,hvt,hct,_,_⟩:=(hS.ownS 0 rfl).form;subst hvt;have H:=Hd hS;clear hS HA hlt;have C2:=a0r (c:=ct) ((H.ownInts 0 rfl).2.2)
    go_wp2_with fail
    cases ho:Sh.right (padS s lo hi) with
    | false =>
     rw[ho] at C2;refine C2.mono ?_;rintro e3 w3 ⟨rfl,rfl⟩;have HX:=Hd (b8v (n:=x0) HRT HOK ho);obtain⟨r0,r1,fr0,fr1⟩:=H.b2 1;clear ho C2;go_wp2;rw[HX.out]
     exact sN2 H 1 13 results85
    | true =>
     rw[ho] at C2;refine C2.mono ?_;rintro e3 w3 ⟨rfl,rfl⟩;have HRO:=Hd ho;clear ho C2
     go_wp2_with fail
     refine(a1t x0 ((H.ownInts 0 rfl).2.2) (by omega) hx0).mono ?_;rintro e4 w4 ⟨⟨u,rfl,hu⟩,hb4⟩;obtain⟨S1,ns,sc,D1,N,dc,rfl,hs1,hd1,hsc,hdc,hNle,h5⟩:=H.addTen hb4 hu;rw[List.length_replicate] at hd1;rw[hd1] at h5;have HN:=Hd hd1;have HQ:=Hd (d7w (n:=x0) HRT HOK HRO);have h6:=h5.allocBox w4.heap.size 89 [.slice S1 ns sc,.slice D1 N dc] rfl;clear hu hb4 h5 hd1 hs1
     go_upto_region 16 with fail
     generalize w4.alloc (.cells #[.slice S1 ns sc,.slice D1 N dc] 89)=w5 at *;generalize w4.heap.size=gt at *;replace H:=Hd h6;clear h6;obtain⟨t0,t1⟩:=H.z2 5 rfl
     go_wp2_with fail
     clear t0 t1
     go_loopw [96] (fun kv wr=>∃ i:Nat,kv=.int .i64 i∧i≤m∧Sep w wr [.box gt 89 [.slice S1 ns sc,.slice D1 N dc],.own 3 (.slice S1 ns sc) ns (padS s lo hi),.own 2 (.slice D1 N dc) N (scat (List.replicate N x0) d (fun i=>(Sh.index (padS s lo hi) (addP (Sh.placeOf s i) lo)).toNat) i),.own 3 (.slice At nh ct) nh (padS s lo hi),.box (w.heap.size+1) 89 [.slice none 0 0,.slice none 0 0],.box w.heap.size 89 [.slice A nh c,.slice B m e],.ints A nh s,.ints B m d,.ints Al nh lo,.ints Ah nh hi]) (fun kv _=>m-(intOf kv).toNat)
     case atStart=>exact⟨0,rfl,by omega,H⟩
     case round =>
      clear H;obtain⟨i,rfl,hile,hS⟩:=hrel;have H:=Hd hS;clear hS;by_cases hli:i<m
      ·have hiz:(i:Int)<Sh.size s:=by have:=a2i HRT;have:=HDL.out;omega
       obtain⟨t0,t1⟩:=H.z2 5 rfl
       go_wp2_with fail
       refine(a3l i (H.oldInts 6 rfl) ⟨by omega,by omega⟩).mono ?_;rintro e6 w6 ⟨⟨v,n6,rfl,hO⟩,hb6⟩;obtain⟨A6,c6,rfl,hc6,_,_⟩:=hO.form;obtain⟨_,hpl,hpw,_⟩:=a1q hiz;have hp6:nh=n6:=by have:=hO.len;have:=HSL.out;omega
       replace H:=Hd (H.addOwn hb6 hO);obtain⟨P,hP⟩:∃ P,Sh.placeOf s i=P:=⟨_,rfl⟩;have H':=Hd (show Sep w w6 (.own 3 (.slice A6 n6 c6) n6 P::_) by rw[←hP];exact H);rw[hP] at hpl hpw;have HP:=Hd hP;have HPL:=Hd (show P.length=nh by have:=HSL.out;omega);have HPW:=Hd hpw;clear H hb6 hO hP hpl hpw hc6 t0 t1;subst hp6
       go_wp2_with fail
       go_loopw [105] (fun kv wr=>∃ k:Nat,kv=.int .i64 k∧k≤nh∧Sep w wr [.own 3 (.slice A6 nh c6) nh (mix (addP P lo) P k),.box gt 89 [.slice S1 ns sc,.slice D1 N dc],.own 3 (.slice S1 ns sc) ns (padS s lo hi),.own 2 (.slice D1 N dc) N (scat (List.replicate N x0) d (fun i=>(Sh.index (padS s lo hi) (addP (Sh.placeOf s i) lo)).toNat) i),.own 3 (.slice At nh ct) nh (padS s lo hi),.box (w.heap.size+1) 89 [.slice none 0 0,.slice none 0 0],.box w.heap.size 89 [.slice A nh c,.slice B m e],.ints A nh s,.ints B m d,.ints Al nh lo,.ints Ah nh hi]) (fun kv _=>nh-(intOf kv).toNat)
       case atStart=>exact⟨0,rfl,by omega,by rw[a4v];exact H'⟩
       case round =>
        clear H';obtain⟨k,rfl,hk,hS⟩:=hrel;have hal:(addP P lo).length=P.length:=a6w (by have:=HPL.out;have:=HLlo.out;omega);by_cases hlk:k<nh
        ·obtain⟨gp,cp,hv,hOp⟩:=(hS.ownS 0 rfl).own (by omega);injection hv with hv1 _ hv3
         subst hv1;subst hv3;obtain⟨x,hx⟩:=a0h (l:=P) (k:=k) (by have:=HPL.out;omega);obtain⟨la,y,hlA,_,hy,hcy,hfy⟩:=(hS.oldInts 9 rfl).at_ (k:=k) hlk;subst hlA;have hcx:=hOp.cell (j:=k) (x:=x) (by rw[d7a hal (by have:=HPL.out;omega)];exact hx);have hfr:=hOp.frozen k;obtain⟨sa,hsa⟩:=a0h (l:=s) (k:=k) (by have:=HSL.out;omega);obtain⟨hh,hhh⟩:=a0h (l:=hi) (k:=k) (by have:=HLhi.out;omega);have hb1:=Sh.within_at HPW hsa hx;have hb2:=HOK.out.2.2 k y hh hy hhh;have hb3:=(Sh.right_iff.1 (a3o HRT)).2.1 sa (mG hsa);have hS2:=hS.store 0 k (x:=x+y) ⟨by omega,by omega⟩ rfl;have hw:IntKind.i64.wrap (x+y)=x+y:=IntWalk.i64_in _ ⟨by omega,by omega⟩;rw[c8z hal (c2l hx hy)] at hS2;have HS2:=Hd hS2;clear hS hS2 hOp hx hy hsa hhh hal hfy hb1 hb2 hb3
         go_upto_region 23 with fail
         go_still_tail 12,(by kernel_rfl)
         change wpList _ _ _ _ _ wr.drew;have hcx1:wr.drew.cell? ⟨gp,k,none⟩=some (.int .i64 x):=hcx;have hfr1:wr.drew.frozen? ⟨gp,k,none⟩=false:=hfr;go_wp2;go_roundw
         case rel=>exact⟨k+1,by go_num,by omega,HS2.drew⟩
         case measure=>simp[intOf];omega
        ·have hkn:nh=k:=by omega
         subst hkn;rw[show mix (addP P lo) P nh=addP P lo by have:=c3e (t:=addP P lo) (o:=P) hal;rwa [HPL.out] at this] at hS;have hwi:=d3o HOK hiz;have hix:=b6j HRO hwi.1 hwi.2;rw[HP.out] at hwi hix;obtain⟨K,hK⟩:=eZ hix.1;have hKN:K < N:=by have:=HN.out;omega
         obtain⟨gb,cb,hv,hO⟩:=(hS.ownS 3 rfl).own (by omega);injection hv with hv1 _ hv3
         subst hv1;subst hv3;have H:=Hd hS;obtain⟨o0,o1⟩:=H.z2 1 rfl;obtain⟨t0,t1⟩:=H.z2 6 rfl;obtain⟨bd,X,hBA,_,hX,hcX,hfX⟩:=(H.oldInts 8 rfl).at_ (k:=i) hli;subst hBA;obtain⟨z,hz⟩:=a0h (l:=scat (List.replicate N x0) d (fun i=>(Sh.index (padS s lo hi) (addP (Sh.placeOf s i) lo)).toNat) i) (k:=K) (by rw[b2q,List.length_replicate];exact hKN);have HZ:=Hd hz;have HFX:=Hd hfX;have HST:=Hd (c6v (o:=List.replicate N x0) (ix:=(fun i=>(Sh.index (padS s lo hi) (addP (Sh.placeOf s i) lo)).toNat)) hX);have HK:=Hd (show(fun i=>(Sh.index (padS s lo hi) (addP (Sh.placeOf s i) lo)).toNat) i=K by show(Sh.index (padS s lo hi) (addP (Sh.placeOf s i) lo)).toNat=K;rw[HP.out,hK];rfl);have C1:Calls prog 115 #[.slice At nh ct,.slice A6 nh c6] wr.drew fun e w'=>e=.returned (.int .i64 K)∧Below wr.drew.heap.size wr.drew w':=by rw[←hK];exact(a7t ((H.drew.ownInts 4 rfl).2.2) ((H.drew.ownInts 0 rfl).2.2)).mono fun _ _ ⟨e,k,h⟩=>⟨e,by rw[h];exact a1h (Below.refl _ _) k⟩
         have HDX:=Hd hX;have HC:=Hd C1;clear hS hO hwi hix hK C1 o0 hX hz hfX
         go_upto_region 25 with fail
         go_region_held3 (fun w'=>w'.cell? ⟨gt,1,none⟩=some (.slice (some ⟨gb,0,none⟩) N dc)∧w'.cell? ⟨w.heap.size,1,none⟩=some (.slice (some bd) m e)∧w'.cell? (bd.add i)=some (.int .i64 X)) (go_keep)
          (first|(go_at_call 115;refine HC.mono ?_;rintro e7 w7 ⟨rfl,hb7⟩;have H7:=Hd (H.drew.below hb7);have m0:=H7.c 1 1;have m1:=H7.c 6 1;have m9:=(H7.oldInts 8 rfl).get HDX;have hcs:=(H7.own 3 rfl).cell HZ;have hfs:=(H7.own 3 rfl).frozen K;have HS7:=Hd (H7.store 3 K HFX rfl);have k0:(w7.setCell ⟨gb,K,none⟩ (.int .i64 X)).cell? ⟨gt,1,none⟩=some (.slice (some ⟨gb,0,none⟩) N dc):=HS7.c 1 1;have k1:(w7.setCell ⟨gb,K,none⟩ (.int .i64 X)).cell? ⟨w.heap.size,1,none⟩=some (.slice (some bd) m e):=HS7.c 6 1;have k9:(w7.setCell ⟨gb,K,none⟩ (.int .i64 X)).cell? (bd.add i)=some (.int .i64 X):=(HS7.oldInts 8 rfl).get HDX))
         clear o1 t0 t1 m0 m1 m9 k0 k1 k9 hcs hfs hcX;go_wp2;go_roundw
         case rel=>exact⟨i+1,by go_num,by omega,by rw[←HST.out,HK.out];exact HS7.sub [1,2,3,4,5,6,7,8,9,10] rfl (by decide)⟩
         case measure=>simp[intOf];omega
      ·have hin:m=i:=by omega
       subst hin;rw[show scat (List.replicate N x0) d (fun i=>(Sh.index (padS s lo hi) (addP (Sh.placeOf s i) lo)).toNat) m=padD s d lo hi x0 by rw[padD,HDL.out,HN.out]] at H;obtain⟨o0,o1⟩:=H.z2 0 rfl;obtain⟨r0,r1,fr0,fr1⟩:=H.b2 4;go_wp2;rw[HQ.out];exact sY2 ((H.setBox 4 0 (.slice S1 ns sc) rfl).setBox 4 1 (.slice D1 N dc) rfl) 4 1 2 (.int .i64 0) results85
end Go.Proofs.YtdcmanhgekjhgaaGreatDoor
