import Derived.Test.YtjblengklgkgfaaGreatPaj
set_option maxRecDepth 100000
set_option maxHeartbeats 12800000
namespace Go.Proofs.YtjblengklgkgfaaGreat
open Go.RowKit Go.Proofs.Tryz
variable {w:World}
theorem c6n {v:Value}{Al Ah:Option Addr}{nl cl nh ch:Nat}{s d lo hi:List Int}(x0:Int)(h:Ten w v s d)(hL:Ints w Al nl lo)(hH:Ints w Ah nh hi)(hx0:Fits x0):
  Calls prog 81 #[v,.slice Al nl cl,.slice Ah nh ch,.int .i64 x0] w fun e w'=>(∃ u,e=.returned (.tuple #[u,.int .i64 (padR s d lo hi x0).1])∧OTen w' w.heap.size u (padR s d lo hi x0).2.1 (padR s d lo hi x0).2.2)∧Below w.heap.size w w':=by
 obtain⟨A,n,c,B,m,e,rfl,hnc,hme,hI,hJ⟩:=h;have h1:=((((((Sep.nil w).old hH).old hL).old hJ).old hI).allocBox w.heap.size 33 [.slice A n c,.slice B m e] rfl).allocBox (w.heap.size+1) 33 [.slice none 0 0,.slice none 0 0] (by simp);have hsl:=hI.len;have hnle:=hI.le;have hmle:=hJ.le;have HFD:=Hd hJ.fit;have HDL:=Hd hJ.len;have hllo:=hL.len;have hlelo:=hL.le;have hlhi:=hH.len;have hlehi:=hH.le
 go_enter func81,ntmps81
 go_upto_region 1 with fail
 generalize (w.alloc (.cells #[.slice A n c,.slice B m e] 33)).alloc (.cells #[.slice none 0 0,.slice none 0 0] 33)=W at *;have H:=Hd h1;clear h1 hI hJ hL hH;have HSL:=Hd hsl;clear hsl;have HLlo:=Hd hllo;clear hllo;have HLhi:=Hd hlhi;clear hlhi;have hT:=a1s (H.oldInts 2 rfl) hnc (H.oldInts 3 rfl) hme;have C1:=a2a hT;have HT:=Hd hT;clear hT;obtain⟨t0,t1⟩:=H.z2 1 rfl
 go_wp2_with fail
 cases hr:a0a s d with
 | false =>
  rw[hr] at C1;refine C1.mono ?_;rintro e2 w2 ⟨rfl,hb2⟩;replace H:=Hd (H.below hb2);have HX:=Hd (c0y (lo:=lo) (hi:=hi) (n:=x0) hr);obtain⟨r0,r1,fr0,fr1⟩:=H.b2 0;clear hb2 hr C1 t0 t1;go_wp2;rw[HX.out]
  exact sN2 H 0 13 results81
 | true =>
  rw[hr] at C1;refine C1.mono ?_;rintro e2 w2 ⟨rfl,hb2⟩;replace H:=Hd (H.below hb2);have HRT:=Hd hr;clear hb2 hr C1 t0 t1 HT;have hn4:n≤4:=by have:=(a1f HRT).1;have:=HSL.out;omega
  obtain⟨t0,t1⟩:=H.z2 1 rfl;by_cases hlen:nl=n∧nh=n;rotate_left
  ·have HX:=Hd (b3w (lo:=lo) (hi:=hi) (n:=x0) HRT (fun hc=>by have:=hc.1;have:=hc.2.1;have:=HSL.out;have:=HLlo.out;have:=HLhi.out;omega));have hg:((nl:Int) != (n:Int))=true∨(((nl:Int) != (n:Int))=false∧((nh:Int) != (n:Int))=true):=by simp;omega
   clear hlen;obtain⟨r0,r1,fr0,fr1⟩:=H.b2 0;rcases hg with hg|⟨hg,hg2⟩
   all_goals (
    go_wp2;rw[HX.out]
    exact sN2 H 0 1 results81)
  obtain⟨rfl,rfl⟩:=hlen;replace H:=Hd (H.addNil 3)
  go_wp2_with fail
  go_loopw [37,10] (fun kv vs wr=>∃ j:Nat,kv=.int .i64 j∧j≤nh∧(∀ k,k<j→e1t lo hi k)∧Sep w wr [.own 3 vs j ((padS s lo hi).take j),.box (w.heap.size+1) 33 [.slice none 0 0,.slice none 0 0],.box w.heap.size 33 [.slice A nh c,.slice B m e],.ints A nh s,.ints B m d,.ints Al nh lo,.ints Ah nh hi]) (fun kv _ _=>nh-(intOf kv).toNat)
  case atStart=>exact⟨0,rfl,by omega,fun k hk=>by omega,H⟩
  case round =>
   clear H;obtain⟨j,rfl,hj,hall,hS⟩:=hrel;have HA:=Hd hall;clear hall;by_cases hlt:j<nh
   ·obtain⟨la,x,hlA,_,hx,hcx,hfx⟩:=(hS.oldInts 5 rfl).at_ (k:=j) hlt;obtain⟨ha,y,hhA,_,hy,hcy,hfy⟩:=(hS.oldInts 6 rfl).at_ (k:=j) hlt;obtain⟨sa,z,hsA,_,hz,hcz,hfz⟩:=(hS.oldInts 3 rfl).at_ (k:=j) hlt;subst hlA;subst hhA;subst hsA;have hzb:=(Sh.right_iff.1 (a1p HRT)).2.1 z (mG hz);have HE:=Hd (⟨hx,hy,hz⟩:_∧_∧_);clear hx hy hz hfz;have H:=Hd hS;clear hS;have HBAD:=Hd (fun (hbad:¬(0≤x∧0≤y∧x≤32∧y≤32))=>b3w (n:=x0) (d:=d) (lo:=lo) (hi:=hi) HRT (fun hc=>hbad (hc.2.2 j x y HE.out.1 HE.out.2.1)));obtain⟨hfx1,hfx2⟩:=hfx;obtain⟨hfy1,hfy2⟩:=hfy;by_cases g0:x<0
    ·have d0:decide (x<0)=true:=by simpa using g0
     have HX:=Hd (HBAD (by omega));obtain⟨r0,r1,fr0,fr1⟩:=H.b2 1;go_wp2;rw[HX.out];exact sN2 H 1 1 results81
    have d0:decide (x<0)=false:=by simpa using g0
    by_cases g1:y<0
    ·have d1:decide (y<0)=true:=by simpa using g1
     have HX:=Hd (HBAD (by omega));obtain⟨r0,r1,fr0,fr1⟩:=H.b2 1;go_wp2;rw[HX.out];exact sN2 H 1 1 results81
    have d1:decide (y<0)=false:=by simpa using g1
    by_cases g2:32<x
    ·have d2:decide (32<x)=true:=by simpa using g2
     have HX:=Hd (HBAD (by omega));obtain⟨r0,r1,fr0,fr1⟩:=H.b2 1;go_wp2;rw[HX.out];exact sN2 H 1 1 results81
    have d2:decide (32<x)=false:=by simpa using g2
    by_cases g3:32<y
    ·have d3:decide (32<y)=true:=by simpa using g3
     have HX:=Hd (HBAD (by omega));obtain⟨r0,r1,fr0,fr1⟩:=H.b2 1;go_wp2;rw[HX.out];exact sN2 H 1 1 results81
    have d3:decide (32<y)=false:=by simpa using g3
    clear HBAD;have hw1:IntKind.i64.wrap (x+z)=x+z:=IntWalk.i64_in _ ⟨by omega,by omega⟩;have hw2:IntKind.i64.wrap (x+z+y)=x+z+y:=IntWalk.i64_in _ ⟨by omega,by omega⟩
    go_upto_region 11 with fail
    have H8:=Hd H.drew;obtain⟨t0,t1⟩:=H.z2 2 rfl
    go_region_law (refine a0v rfl (.tmp 67) (.tmp 83) 22 3 rfl underlying22 Tryz.infoInt H8.out 0 rfl rfl (x+z+y) ⟨by omega,by omega⟩ _ rfl ?_ ?_;(focus omega);intro v' w' h';have H9:=Hd h';clear h')
    all_goals (
     clear t0 t1 hcx hcy hcz;go_wp2;go_roundw
     case rel=>exact⟨j+1,by go_num,by omega,fun k hk=>by
      rcases Nat.lt_or_ge k j with h' | h'
      ·exact HA k h'
      ·obtain rfl:k=j:=by omega
       intro x y hx hy;rw[HE.out.1] at hx;rw[HE.out.2.1] at hy;injection hx with hx;injection hy with hy;subst hx;subst hy
       exact⟨by omega,by omega,by omega,by omega⟩,
      by rw[←d4a HE.out.1 HE.out.2.2 HE.out.2.1];exact H9⟩
     case measure=>simp[intOf];omega)
   ·have hjn:nh=j:=by omega
    subst hjn;rw[show(padS s lo hi).take nh=padS s lo hi from List.take_of_length_le (by rw[a7o (by have:=HSL.out;have:=HLlo.out;omega) (by have:=HSL.out;have:=HLhi.out;omega)];have:=HSL.out;omega)] at hS;have HOK:=Hd (show b3c s lo hi from⟨by have:=HSL.out;have:=HLlo.out;omega,by have:=HSL.out;have:=HLhi.out;omega,fun k x y hx hy=>HA.out k (by have:=(lL hx);have:=HLlo.out;omega) x y hx hy⟩);obtain⟨At,ct,hvt,hct,_,_⟩:=(hS.ownS 0 rfl).form;subst hvt;have H:=Hd hS;clear hS HA hlt;have C2:=a1c (c:=ct) ((H.ownInts 0 rfl).2.2)
    go_wp2_with fail
    cases ho:Sh.right (padS s lo hi) with
    | false =>
     rw[ho] at C2;refine C2.mono ?_;rintro e3 w3 ⟨rfl,rfl⟩;have HX:=Hd (b2s (n:=x0) HRT HOK ho);obtain⟨r0,r1,fr0,fr1⟩:=H.b2 1;clear ho C2;go_wp2;rw[HX.out]
     exact sN2 H 1 13 results81
    | true =>
     rw[ho] at C2;refine C2.mono ?_;rintro e3 w3 ⟨rfl,rfl⟩;have HRO:=Hd ho;clear ho C2
     go_wp2_with fail
     refine(a2d x0 ((H.ownInts 0 rfl).2.2) (by omega) hx0).mono ?_;rintro e4 w4 ⟨⟨u,rfl,hu⟩,hb4⟩;obtain⟨S1,ns,sc,D1,N,dc,rfl,hs1,hd1,hsc,hdc,hNle,h5⟩:=H.addTen hb4 hu;rw[List.length_replicate] at hd1;rw[hd1] at h5;have HN:=Hd hd1;have HQ:=Hd (c8d (n:=x0) HRT HOK HRO);have h6:=h5.allocBox w4.heap.size 33 [.slice S1 ns sc,.slice D1 N dc] rfl;clear hu hb4 h5 hd1 hs1
     go_upto_region 16 with fail
     generalize w4.alloc (.cells #[.slice S1 ns sc,.slice D1 N dc] 33)=w5 at *;generalize w4.heap.size=gt at *;replace H:=Hd h6;clear h6;obtain⟨t0,t1⟩:=H.z2 5 rfl
     go_wp2_with fail
     clear t0 t1
     go_loopw [96] (fun kv wr=>∃ i:Nat,kv=.int .i64 i∧i≤m∧Sep w wr [.box gt 33 [.slice S1 ns sc,.slice D1 N dc],.own 3 (.slice S1 ns sc) ns (padS s lo hi),.own 2 (.slice D1 N dc) N (scat (List.replicate N x0) d (fun i=>(Sh.index (padS s lo hi) (addP (Sh.placeOf s i) lo)).toNat) i),.own 3 (.slice At nh ct) nh (padS s lo hi),.box (w.heap.size+1) 33 [.slice none 0 0,.slice none 0 0],.box w.heap.size 33 [.slice A nh c,.slice B m e],.ints A nh s,.ints B m d,.ints Al nh lo,.ints Ah nh hi]) (fun kv _=>m-(intOf kv).toNat)
     case atStart=>exact⟨0,rfl,by omega,H⟩
     case round =>
      clear H;obtain⟨i,rfl,hile,hS⟩:=hrel;have H:=Hd hS;clear hS;by_cases hli:i<m
      ·have hiz:(i:Int)<Sh.size s:=by have:=a0z HRT;have:=HDL.out;omega
       obtain⟨t0,t1⟩:=H.z2 5 rfl
       go_wp2_with fail
       refine(a3y i (H.oldInts 6 rfl) ⟨by omega,by omega⟩).mono ?_;rintro e6 w6 ⟨⟨v,n6,rfl,hO⟩,hb6⟩;obtain⟨A6,c6,rfl,hc6,_,_⟩:=hO.form;obtain⟨_,hpl,hpw,_⟩:=a1o hiz;have hp6:nh=n6:=by have:=hO.len;have:=HSL.out;omega
       replace H:=Hd (H.addOwn hb6 hO);obtain⟨P,hP⟩:∃ P,Sh.placeOf s i=P:=⟨_,rfl⟩;have H':=Hd (show Sep w w6 (.own 3 (.slice A6 n6 c6) n6 P::_) by rw[←hP];exact H);rw[hP] at hpl hpw;have HP:=Hd hP;have HPL:=Hd (show P.length=nh by have:=HSL.out;omega);have HPW:=Hd hpw;clear H hb6 hO hP hpl hpw hc6 t0 t1;subst hp6
       go_wp2_with fail
       go_loopw [105] (fun kv wr=>∃ k:Nat,kv=.int .i64 k∧k≤nh∧Sep w wr [.own 3 (.slice A6 nh c6) nh (mix (addP P lo) P k),.box gt 33 [.slice S1 ns sc,.slice D1 N dc],.own 3 (.slice S1 ns sc) ns (padS s lo hi),.own 2 (.slice D1 N dc) N (scat (List.replicate N x0) d (fun i=>(Sh.index (padS s lo hi) (addP (Sh.placeOf s i) lo)).toNat) i),.own 3 (.slice At nh ct) nh (padS s lo hi),.box (w.heap.size+1) 33 [.slice none 0 0,.slice none 0 0],.box w.heap.size 33 [.slice A nh c,.slice B m e],.ints A nh s,.ints B m d,.ints Al nh lo,.ints Ah nh hi]) (fun kv _=>nh-(intOf kv).toNat)
       case atStart=>exact⟨0,rfl,by omega,by rw[a2p];exact H'⟩
       case round =>
        clear H';obtain⟨k,rfl,hk,hS⟩:=hrel;have hal:(addP P lo).length=P.length:=a5g (by have:=HPL.out;have:=HLlo.out;omega);by_cases hlk:k<nh
        ·obtain⟨gp,cp,hv,hOp⟩:=(hS.ownS 0 rfl).own (by omega);injection hv with hv1 _ hv3
         subst hv1;subst hv3;obtain⟨x,hx⟩:=a0f (l:=P) (k:=k) (by have:=HPL.out;omega);obtain⟨la,y,hlA,_,hy,hcy,hfy⟩:=(hS.oldInts 9 rfl).at_ (k:=k) hlk;subst hlA;have hcx:=hOp.cell (j:=k) (x:=x) (by rw[c1j hal (by have:=HPL.out;omega)];exact hx);have hfr:=hOp.frozen k;obtain⟨sa,hsa⟩:=a0f (l:=s) (k:=k) (by have:=HSL.out;omega);obtain⟨hh,hhh⟩:=a0f (l:=hi) (k:=k) (by have:=HLhi.out;omega);have hb1:=Sh.within_at HPW hsa hx;have hb2:=HOK.out.2.2 k y hh hy hhh;have hb3:=(Sh.right_iff.1 (a1p HRT)).2.1 sa (mG hsa);have hS2:=hS.store 0 k (x:=x+y) ⟨by omega,by omega⟩ rfl;have hw:IntKind.i64.wrap (x+y)=x+y:=IntWalk.i64_in _ ⟨by omega,by omega⟩;rw[b3h hal (b2p hx hy)] at hS2;have HS2:=Hd hS2;clear hS hS2 hOp hx hy hsa hhh hal hfy hb1 hb2 hb3
         go_upto_region 23 with fail
         go_still_tail 12,(by kernel_rfl)
         change wpList _ _ _ _ _ wr.drew;have hcx1:wr.drew.cell? ⟨gp,k,none⟩=some (.int .i64 x):=hcx;have hfr1:wr.drew.frozen? ⟨gp,k,none⟩=false:=hfr;go_wp2;go_roundw
         case rel=>exact⟨k+1,by go_num,by omega,HS2.drew⟩
         case measure=>simp[intOf];omega
        ·have hkn:nh=k:=by omega
         subst hkn;rw[show mix (addP P lo) P nh=addP P lo by have:=b1t (t:=addP P lo) (o:=P) hal;rwa [HPL.out] at this] at hS;have hwi:=b5k HOK hiz;have hix:=a7c HRO hwi.1 hwi.2;rw[HP.out] at hwi hix;obtain⟨K,hK⟩:=eZ hix.1;have hKN:K < N:=by have:=HN.out;omega
         obtain⟨gb,cb,hv,hO⟩:=(hS.ownS 3 rfl).own (by omega);injection hv with hv1 _ hv3
         subst hv1;subst hv3;have H:=Hd hS;obtain⟨o0,o1⟩:=H.z2 1 rfl;obtain⟨t0,t1⟩:=H.z2 6 rfl;obtain⟨bd,X,hBA,_,hX,hcX,hfX⟩:=(H.oldInts 8 rfl).at_ (k:=i) hli;subst hBA;obtain⟨z,hz⟩:=a0f (l:=scat (List.replicate N x0) d (fun i=>(Sh.index (padS s lo hi) (addP (Sh.placeOf s i) lo)).toNat) i) (k:=K) (by rw[a7w,List.length_replicate];exact hKN);have HZ:=Hd hz;have HFX:=Hd hfX;have HST:=Hd (b9g (o:=List.replicate N x0) (ix:=(fun i=>(Sh.index (padS s lo hi) (addP (Sh.placeOf s i) lo)).toNat)) hX);have HK:=Hd (show(fun i=>(Sh.index (padS s lo hi) (addP (Sh.placeOf s i) lo)).toNat) i=K by show(Sh.index (padS s lo hi) (addP (Sh.placeOf s i) lo)).toNat=K;rw[HP.out,hK];rfl);have C1:Calls prog 129 #[.slice At nh ct,.slice A6 nh c6] wr.drew fun e w'=>e=.returned (.int .i64 K)∧Below wr.drew.heap.size wr.drew w':=by rw[←hK];exact(a8i ((H.drew.ownInts 4 rfl).2.2) ((H.drew.ownInts 0 rfl).2.2)).mono fun _ _ ⟨e,k,h⟩=>⟨e,by rw[h];exact a0w (Below.refl _ _) k⟩
         have HDX:=Hd hX;have HC:=Hd C1;clear hS hO hwi hix hK C1 o0 hX hz hfX
         go_upto_region 25 with fail
         go_region_held3 (fun w'=>w'.cell? ⟨gt,1,none⟩=some (.slice (some ⟨gb,0,none⟩) N dc)∧w'.cell? ⟨w.heap.size,1,none⟩=some (.slice (some bd) m e)∧w'.cell? (bd.add i)=some (.int .i64 X)) (go_keep)
          (first|(go_at_call 129;refine HC.mono ?_;rintro e7 w7 ⟨rfl,hb7⟩;have H7:=Hd (H.drew.below hb7);have m0:=H7.c 1 1;have m1:=H7.c 6 1;have m9:=(H7.oldInts 8 rfl).get HDX;have hcs:=(H7.own 3 rfl).cell HZ;have hfs:=(H7.own 3 rfl).frozen K;have HS7:=Hd (H7.store 3 K HFX rfl);have k0:(w7.setCell ⟨gb,K,none⟩ (.int .i64 X)).cell? ⟨gt,1,none⟩=some (.slice (some ⟨gb,0,none⟩) N dc):=HS7.c 1 1;have k1:(w7.setCell ⟨gb,K,none⟩ (.int .i64 X)).cell? ⟨w.heap.size,1,none⟩=some (.slice (some bd) m e):=HS7.c 6 1;have k9:(w7.setCell ⟨gb,K,none⟩ (.int .i64 X)).cell? (bd.add i)=some (.int .i64 X):=(HS7.oldInts 8 rfl).get HDX))
         clear o1 t0 t1 m0 m1 m9 k0 k1 k9 hcs hfs hcX;go_wp2;go_roundw
         case rel=>exact⟨i+1,by go_num,by omega,by rw[←HST.out,HK.out];exact HS7.sub [1,2,3,4,5,6,7,8,9,10] rfl (by decide)⟩
         case measure=>simp[intOf];omega
      ·have hin:m=i:=by omega
       subst hin;rw[show scat (List.replicate N x0) d (fun i=>(Sh.index (padS s lo hi) (addP (Sh.placeOf s i) lo)).toNat) m=padD s d lo hi x0 by rw[padD,HDL.out,HN.out]] at H;obtain⟨o0,o1⟩:=H.z2 0 rfl;obtain⟨r0,r1,fr0,fr1⟩:=H.b2 4;go_wp2;rw[HQ.out];exact sY2 ((H.setBox 4 0 (.slice S1 ns sc) rfl).setBox 4 1 (.slice D1 N dc) rfl) 4 1 2 (.int .i64 0) results81
theorem c5k {A:Option Addr}{n c:Nat}{l:TL}(ax:Int)(hT:Tens w A n l):
  Calls prog 82 #[.int .i64 ax,.slice A n c] w fun e w'=>(∃ u,e=.returned (.tuple #[u,.int .i64 (a6r ax l).1])∧OTen w' w.heap.size u (a6r ax l).2.1 (a6r ax l).2.2)∧Below w.heap.size w w':=by
 have hl:=hT.1;have hn6:=hT.2.1;have HTN:=Hd hT;have HLN:=Hd hl;clear hT hl;have h1:=(Sep.nil w).allocBox w.heap.size 33 [.slice none 0 0,.slice none 0 0] rfl
 go_enter func82,ntmps82
 go_upto_region 1 with fail
 generalize w.alloc (.cells #[.slice none 0 0,.slice none 0 0] 33)=W at *;have H:=Hd h1;clear h1
 go_wp2_with fail
 go_loopw [17] (fun kv wr=>∃ j:Nat,kv=.int .i64 j∧j≤n∧(∀(k:Nat) (t:List Int × List Int),k<j→l[k]?=some t→a0a t.1 t.2=true)∧Sep w wr [.box w.heap.size 33 [.slice none 0 0,.slice none 0 0]]) (fun kv _=>n-(intOf kv).toNat)
 case atStart=>exact⟨0,rfl,by omega,fun k t hk=>by omega,H⟩
 case round =>
  clear H;obtain⟨j,rfl,hj,hall,hS⟩:=hrel;have HA:=Hd hall;have H:=Hd hS;clear hall hS;by_cases hlt:j<n
  ·obtain⟨t,ht⟩:=a0f (l:=l) (k:=j) (by have:=HLN.out;omega);obtain⟨a,S,sn,sc,D,dn,dc,hA,hbl,q0,q1,hten⟩:=HTN.out.2.2 j t ht;subst hA;have HE:=Hd ht;have HQ0:=Hd q0;have HQ1:=Hd q1;have HTE:=Hd hten;clear ht q0 q1 hten;have q0:=H.oldCell (by rw[a0g];exact hbl) HQ0;have q1:=H.oC HQ1.out (by simp only[a0g];exact hbl);have C1:=a2a (H.oldTen HTE)
   go_wp2_with fail
   cases hr:a0a t.1 t.2 with
   | false =>
    rw[hr] at C1;refine C1.mono ?_;rintro e2 w2 ⟨rfl,hb2⟩;replace H:=Hd (H.below hb2);have HX:=Hd (b7e (ax:=ax) (fun hc=>by have:=hc t (mG HE);rw[hr] at this;cases this));obtain⟨r0,r1,fr0,fr1⟩:=H.b2 0;clear hb2 hr C1 q0 q1;go_wp2;rw[HX.out]
    exact sN2 H 0 13 results82
   | true =>
    rw[hr] at C1;refine C1.mono ?_;rintro e2 w2 ⟨rfl,hb2⟩;replace H:=Hd (H.below hb2);have HR:=Hd hr;clear hb2 hr C1 q0 q1;go_wp2;go_roundw
    case rel=>exact⟨j+1,by go_num,by omega,fun k u hk hu=>by
     rcases Nat.lt_or_ge k j with h' | h'
     ·exact HA k u h' hu
     ·obtain rfl:k=j:=by omega
      rw[HE.out] at hu;injection hu with hu;subst hu;exact HR,H⟩
    case measure=>simp[intOf];omega
  ·have hjn:n=j:=by omega
   subst hjn;have HAR:=Hd (show a1k l from fun t ht=>by obtain⟨i,hi⟩:=List.getElem?_of_mem ht;exact HA i t (by have:=(lL hi);have:=HLN.out;omega) hi);clear HA hlt;by_cases hn0:n=0
   ·have dz:((n:Int)==0)=true:=by simp[hn0]
    have HX:=Hd (a5t (ax:=ax) HAR (fun hc=>by obtain⟨t,ht,_⟩:=hc;have:=(lL ht);have:=HLN.out;omega));clear hn0;obtain⟨r0,r1,fr0,fr1⟩:=H.b2 0;go_wp2;rw[HX.out];exact sN2 H 0 1 results82
   have dz:((n:Int)==0)=false:=by simp;omega
   have hnp:0<n:=by omega
   clear hn0;by_cases g1:ax<0
   ·have d1:decide (ax<0)=true:=by simpa using g1
    have HX:=Hd (a5t (ax:=ax) HAR (fun hc=>by obtain⟨t,_,h0,_⟩:=hc;omega));obtain⟨r0,r1,fr0,fr1⟩:=H.b2 0;go_wp2;rw[HX.out];exact sN2 H 0 1 results82
   obtain⟨t0,ht0⟩:=a0f (l:=l) (k:=0) (by have:=HLN.out;omega);obtain⟨a,S0,sn0,sc0,D0,dn0,dc0,hA,hbl,g0,_,hten⟩:=HTN.out.2.2 0 t0 ht0;subst hA;rw[show a.add (0*2)=a by cases a;rfl] at g0;obtain⟨hI0,_⟩:=a0u hten;have hsn0:=hI0.len;have HI0:=Hd hI0;have HT0:=Hd ht0;have HG0:=Hd g0;clear ht0 g0 hten hI0;have g0:=H.oldCell hbl HG0.out;by_cases g2:(sn0:Int)≤ax
   ·have d2:decide ((sn0:Int)≤ax)=true:=by simpa using g2
    have HX:=Hd (a5t (ax:=ax) HAR (fun hc=>by obtain⟨t,ht,_,h1⟩:=hc;rw[HT0.out] at ht;injection ht with ht;subst ht;omega));obtain⟨r0,r1,fr0,fr1⟩:=H.b2 0;clear hsn0;go_wp2;rw[HX.out];exact sN2 H 0 1 results82
   obtain⟨xa,rfl⟩:=eZ (by omega:0≤ax);have hxa:xa<sn0:=by omega
   have e2:decide (sn0≤xa)=false:=by simp;omega
   have HAX:=Hd (show axOk (xa:Int) l from⟨t0,HT0,by omega,by omega⟩);have HHD:=Hd (show a5d l=t0.1 by cases hl:l with|nil=>have:=HT0.out;rw[hl] at this;simp at this|cons u r=>have:=HT0.out;rw[hl] at this;simp at this;rw[←this];rfl);have HHL:=Hd (show(a5d l).length=sn0 by rw[HHD.out];exact hsn0);have hs4:sn0≤4:=by have:=(a1f (HAR t0 (mG HT0))).1;omega
   clear hsn0 g1 g2;have H5:=Hd (H.empty 3);have g5:=H5.oldCell hbl HG0.out
   go_wp2_with (at_builtin;refine a0l rfl (.tmp 45) (.tmp 49) 22 3 rfl underlying22 Tryz.infoInt H5.out 0 rfl rfl S0 sn0 sc0 t0.1 rfl (H5.out.oldI HI0.out) ?c1 ?_)
   case c1=>omega
   intro v' w' h';obtain⟨gs,cs,hv,hO⟩:=(h'.ownS 0 rfl).own (by omega);subst hv;obtain⟨z,hz⟩:=a0f (l:=t0.1) (k:=xa) (by have:=HHL.out;rw[HHD.out] at this;omega);have hcz:=hO.cell hz;have hfz:=hO.frozen xa;have h6:=h'.store 0 xa (x:=0) ⟨by omega,by omega⟩ rfl;clear h' hO hz H H5 g0 g5
   go_upto_region 11 with fail
   generalize w'.setCell ⟨gs,xa,none⟩ (.int .i64 0)=w8 at *;clear hcz hfz;rw[←HHD.out] at h6;have H:=Hd h6;clear h6
   go_wp2_with fail
   go_loopw [56] (fun kv wr=>∃ i:Nat,kv=.int .i64 i∧i≤n∧(∀(k:Nat) (t:List Int × List Int),k<i→l[k]?=some t→b3a (a5d l) xa t.1)∧tot xa (l.take i)≤32∧Sep w wr [.own 3 (.slice (some ⟨gs,0,none⟩) sn0 cs) sn0 ((a5d l).set xa (tot xa (l.take i))),.box w.heap.size 33 [.slice none 0 0,.slice none 0 0]]) (fun kv _=>n-(intOf kv).toNat)
   case atStart=>exact⟨0,rfl,by omega,fun k t hk=>by omega,by simp[tot],H⟩
   case round =>
    clear H;obtain⟨i,rfl,hile,hall,htot,hS⟩:=hrel;have HF:=Hd hall;have H:=Hd hS;clear hall hS;by_cases hli:i<n
    ·have HBI:=Hd hbl;clear hbl;obtain⟨t,ht⟩:=a0f (l:=l) (k:=i) (by have:=HLN.out;omega);obtain⟨a,S,sn,sc,D,dn,dc,hA,hbl,q0,q1,hten⟩:=HTN.out.2.2 i t ht;injection hA with hA
     subst hA;have HE:=Hd ht;have HQ0:=Hd q0;have HQ1:=Hd q1;have HTE:=Hd hten;clear ht q0 q1 hten;have q0:=H.oldCell (by rw[a0g];exact hbl) HQ0;have q1:=H.oC HQ1.out (by simp only[a0g];exact hbl);have hsn:=(a0u HTE).1.len;by_cases hlen:sn=sn0;rotate_left
     ·have hg:((sn:Int) != (sn0:Int))=true:=by simp;omega
      have HX:=Hd (a3s HAR HAX (fun hk=>by have:=(hk.1 t (mG HE)).1;have:=HHL.out;omega));obtain⟨r0,r1,fr0,fr1⟩:=H.b2 1;clear hlen hsn;go_wp2;rw[HX.out];exact sN2 H 1 13 results82
     subst hlen;have HSN:=Hd hsn;clear hsn
     go_wp2_with fail
     go_loopw [71] (fun kv wr2=>∃ k:Nat,kv=.int .i64 k∧k≤sn∧(∀(q:Nat) (x y:Int),q<k→q≠xa→t.1[q]?=some x→(a5d l)[q]?=some y→x=y)∧∃ q,wr2=wr.drewN q) (fun kv _=>sn-(intOf kv).toNat)
     case atStart=>exact⟨0,rfl,by omega,fun q x y hq=>by omega,0,rfl⟩
     case round =>
      obtain⟨k,rfl,hk,hall,q,rfl⟩:=hrel;have HC:=Hd hall;clear hall;by_cases hlk:k<sn
      ·obtain⟨sa,x,hsA,_,hx,hcx,hfx⟩:=((a0u (H.oldTen HTE)).1).at_ (k:=k) hlk;subst hsA;obtain⟨y,hy⟩:=a0f (l:=a5d l) (k:=k) (by have:=HHL.out;omega);obtain⟨u,hu⟩:=a0f (l:=(a5d l).set xa (tot xa (l.take i))) (k:=k) (by rw[List.length_set];have:=HHL.out;omega);have hcu:=(H.own 0 rfl).cell hu;have HXY:=Hd (⟨hx,hy,hu⟩:_∧_∧_);clear hx hy hu hfx;by_cases hkx:k=xa
       ·have d1:((k:Int) != (xa:Int))=false:=by simp[hkx]
        have d2:(k != xa)=false:=by simp[hkx]
        have HKX:=Hd hkx;clear hkx
        go_wp2_with fail
        go_quiet (fail)
        go_wp2;go_roundw
        case rel=>exact⟨k+1,by go_num,by omega,fun q2 x2 y2 hq hne hx2 hy2=>by
         rcases Nat.lt_or_ge q2 k with h' | h'
         ·exact HC q2 x2 y2 h' hne hx2 hy2
         ·obtain rfl:q2=k:=by omega
          exact absurd HKX.out hne,_,rfl⟩
        case measure=>simp[intOf];omega
       have d1:((k:Int) != (xa:Int))=true:=by simp;omega
       have d2:(k != xa)=true:=by simp[hkx]
       have huy:u=y:=by have h2:=HXY.out.2.2;rw[List.getElem?_set,iN (fun e=>hkx e.symm),HXY.out.2.1] at h2;injection h2 with h2;exact h2.symm
       subst huy;have HKX:=Hd hkx;clear hkx;by_cases hxu:x=u
       ·subst hxu
        go_wp2_with fail
        go_quiet (fail)
        go_wp2;go_roundw
        case rel=>exact⟨k+1,by go_num,by omega,fun q2 x2 y2 hq hne hx2 hy2=>by
         rcases Nat.lt_or_ge q2 k with h' | h'
         ·exact HC q2 x2 y2 h' hne hx2 hy2
         ·obtain rfl:q2=k:=by omega
          rw[HXY.out.1] at hx2;rw[HXY.out.2.1] at hy2;injection hx2 with hx2;injection hy2 with hy2;exact hx2.symm.trans hy2,_,rfl⟩
        case measure=>simp[intOf];omega
       ·have d3:(x != u)=true:=by simpa using hxu
        have HX:=Hd (a3s HAR HAX (fun hk=>hxu ((hk.1 t (mG HE)).2 k x u HKX HXY.out.1 HXY.out.2.1)));obtain⟨r0,r1,fr0,fr1⟩:=H.b2 1;clear hxu
        go_wp2_with fail
        go_quiet (fail)
        go_wp2;rw[HX.out];exact sN2 (H.drewN _) 1 13 results82
      ·have hkn:sn=k:=by omega
       subst hkn;have HFI:=Hd (show b3a (a5d l) xa t.1 from⟨by have:=HHL.out;have:=HSN.out;omega,fun q x y hne hx hy=>HC.out q x y (by have:=(lL hx);have:=HSN.out;omega) hne hx hy⟩);clear HC hlk;replace H:=Hd (H.drewN q)
       go_upto_region 22 with fail
       generalize wr.drewN q=w4 at *;obtain⟨sa,x,hsA,_,hx,hcx,hfx⟩:=((a0u (H.oldTen HTE)).1).at_ (k:=xa) hxa;subst hsA;have hxb:=a6i (HAR t (mG HE)) xa;rw[gD,hx] at hxb;simp only[Option.getD_some] at hxb;have htp:=(b2v HAR xa i).1;have hcu:=(H.own 0 rfl).cell (j:=xa) (x:=tot xa (l.take i)) (by rw[List.getElem?_set,iP rfl,iP (by have:=HHL.out;omega)]);have hfu:=(H.own 0 rfl).frozen xa;have htk:=b1q HE hx;obtain⟨T1,hT1⟩:∃ z,tot xa (l.take i)=z:=⟨_,rfl⟩;rw[hT1] at hcu htp htot htk;have h8:=H.store 0 xa (x:=T1+x) ⟨by omega,by omega⟩ rfl;rw[List.set_set,show(a5d l).set xa (T1+x)=(a5d l).set xa (tot xa (l.take (i+1))) by rw[htk]] at h8;have hw:IntKind.i64.wrap (T1+x)=T1+x:=IntWalk.i64_in _ ⟨by omega,by omega⟩;have q0:=H.oldCell (by rw[a0g];exact hbl) HQ0;have HTK:=Hd htk;clear htk hT1 hx
       go_still_tail 16,(by kernel_rfl)
       change wpList _ _ _ _ _ w4.drew;have hcu1:w4.drew.cell? ⟨gs,xa,none⟩=some (.int .i64 T1):=hcu;have hfu1:w4.drew.frozen? ⟨gs,xa,none⟩=false:=hfu;have h9:=h8.drew
       go_upto_region 23 with fail
       generalize (w4.setCell ⟨gs,xa,none⟩ (.int .i64 (T1+x))).drew=w9 at *;have hc9:=(h9.own 0 rfl).cell (j:=xa) (x:=T1+x) (by rw[←HTK.out,List.getElem?_set,iP rfl,iP (by have:=HHL.out;omega)]);clear hcu hfu hcu1 hfu1 hcx q0 q1 h8 H;have H:=Hd h9;clear h9;by_cases g4:32<T1+x
       ·have d4:decide (32<T1+x)=true:=by simpa using g4
        have HX:=Hd (a3s HAR HAX (d2t (ax:=xa) HAR (by have:=HHL.out;omega) (i:=i+1) (by rw[HTK.out];omega)));obtain⟨r0,r1,fr0,fr1⟩:=H.b2 1;go_wp2;rw[HX.out];exact sN2 H 1 13 results82
       have d4:decide (32<T1+x)=false:=by simpa using g4
       go_wp2;go_roundw
       case rel=>exact⟨i+1,by go_num,by omega,fun k u hk hu=>by
        rcases Nat.lt_or_ge k i with h' | h'
        ·exact HF k u h' hu
        ·obtain rfl:k=i:=by omega
         rw[HE.out] at hu;injection hu with hu;subst hu;exact HFI,by rw[HTK.out];omega,H⟩
       case measure=>simp[intOf];omega
    ·have hin:n=i:=by omega
     subst hin;have HFA:=Hd (show ∀ t∈l,b3a (a5d l) xa t.1 from fun t ht=>by obtain⟨k,hk⟩:=List.getElem?_of_mem ht;exact HF k t (by have:=(lL hk);have:=HLN.out;omega) hk);replace H:=Hd (by have h:=H.out;rwa [show(a5d l).set xa (tot xa (l.take n))=a2o xa l by rw[a2o,List.take_of_length_le (by have:=HLN.out;omega)]] at h);clear HF hli htot;have HBI:=Hd hbl;have C2:=a1c (c:=cs) ((H.ownInts 0 rfl).2.2)
     go_wp2_with fail
     cases ho:Sh.right (a2o xa l) with
     | false =>
      rw[ho] at C2;refine C2.mono ?_;rintro e3 w3 ⟨rfl,rfl⟩;have HX:=Hd (a3s HAR HAX (fun hk=>by have:=hk.2;rw[show((xa:Int)).toNat=xa from rfl,ho] at this;cases this));obtain⟨r0,r1,fr0,fr1⟩:=H.b2 1;clear ho C2;go_wp2;rw[HX.out]
      exact sN2 H 1 13 results82
     | true =>
      rw[ho] at C2;refine C2.mono ?_;rintro e3 w3 ⟨rfl,rfl⟩;have HRO:=Hd ho;have HOK:=Hd (show b0u xa l from⟨HFA,ho⟩);clear ho C2
      go_wp2_with fail
      refine(a2d 0 ((H.ownInts 0 rfl).2.2) (by omega) ⟨by omega,by omega⟩).mono ?_;rintro e4 w4 ⟨⟨u,rfl,hu⟩,hb4⟩;obtain⟨S1,ns,scO,D1,N,dcO,rfl,hs1,hd1,hsc,hdc,hNle,h5⟩:=H.addTen hb4 hu;rw[List.length_replicate] at hd1;rw[hd1] at h5;have HN:=Hd hd1;have HQ:=Hd (b4m HAR HAX HOK);have h6:=h5.allocBox w4.heap.size 33 [.slice S1 ns scO,.slice D1 N dcO] rfl;clear hu hb4 h5 hd1 hs1
      go_upto_region 29 with fail
      generalize w4.alloc (.cells #[.slice S1 ns scO,.slice D1 N dcO] 33)=w5 at *;generalize w4.heap.size=gt at *;replace H:=Hd h6;clear h6
      go_wp2_with fail
      go_loopw [125,11] (fun kv av wr=>∃ i:Nat,kv=.int .i64 i∧i≤n∧av=.int .i64 (tot xa (l.take i))∧Sep w wr [.box gt 33 [.slice S1 ns scO,.slice D1 N dcO],.own 3 (.slice S1 ns scO) ns (a2o xa l),.own 2 (.slice D1 N dcO) N (a5u xa l i),.own 3 (.slice (some ⟨gs,0,none⟩) sn0 cs) sn0 (a2o xa l),.box w.heap.size 33 [.slice none 0 0,.slice none 0 0]]) (fun kv _ _=>n-(intOf kv).toNat)
      case atStart=>exact⟨0,rfl,by omega,by simp[tot],by rw[b2w,HN.out];exact H⟩
      case round =>
       clear H;obtain⟨i,rfl,hile,rfl,hS⟩:=hrel;have H:=Hd hS;clear hS;by_cases hli:i<n
       ·clear hbl;obtain⟨t,ht⟩:=a0f (l:=l) (k:=i) (by have:=HLN.out;omega);obtain⟨a,S,sn,sc,D,dn,dc,hA,hbl,q0,q1,hten⟩:=HTN.out.2.2 i t ht;injection hA with hA
        subst hA;have HE:=Hd ht;have HQ0:=Hd q0;have HQ1:=Hd q1;have HTE:=Hd hten;clear ht q0 q1 hten;have q0:=H.oldCell (by rw[a0g];exact hbl) HQ0;have q1:=H.oC HQ1.out (by simp only[a0g];exact hbl);have HDN:=Hd (a0u HTE).2.len;have HSN:=Hd (a0u HTE).1.len;have hdn:=(a0u HTE).2.le;have HTR:=Hd (HAR t (mG HE));have HFI:=Hd (HFA t (mG HE));obtain⟨T1,hT1⟩:∃ z,tot xa (l.take i)=z:=⟨_,rfl⟩;have htb:=b2v HAR xa i;have hsx:tot xa l≤32:=(((Sh.right_iff.1 HRO).2.1) (tot xa l) (by rw[a2o];exact List.mem_set (by have:=HHL.out;omega) _)).2;rw[hT1] at htb;have HT1:=Hd hT1;rw[show Value.int .i64 (tot xa (l.take i))=Value.int .i64 T1 by rw[hT1]];clear hT1
        go_wp2_with fail
        go_loopw [134] (fun kv wr=>∃ k:Nat,kv=.int .i64 k∧k≤dn∧Sep w wr [.box gt 33 [.slice S1 ns scO,.slice D1 N dcO],.own 3 (.slice S1 ns scO) ns (a2o xa l),.own 2 (.slice D1 N dcO) N (scat (a5u xa l i) t.2 (b9t (a2o xa l) xa t.1 T1) k),.own 3 (.slice (some ⟨gs,0,none⟩) sn0 cs) sn0 (a2o xa l),.box w.heap.size 33 [.slice none 0 0,.slice none 0 0]]) (fun kv _=>dn-(intOf kv).toNat)
        case atStart=>exact⟨0,rfl,by omega,H⟩
        case round =>
         clear H q0 q1;obtain⟨k,rfl,hk,hS⟩:=hrel;have H:=Hd hS;clear hS;by_cases hlk:k<dn
         ·have hkz:(k:Int)<Sh.size t.1:=by have:=a0z HTR;have:=HDN.out;omega
          have q0:=H.oldCell (by rw[a0g];exact hbl) HQ0;have q1:=H.oC HQ1.out (by simp only[a0g];exact hbl)
          go_wp2_with fail
          refine(a3y k ((a0u (H.oldTen HTE)).1) ⟨by omega,by omega⟩).mono ?_;rintro e6 w6 ⟨⟨v,n6,rfl,hO⟩,hb6⟩;have hwi:=b3b HAR HOK (by have:=HHL.out;omega) HE hkz;rw[HT1.out] at hwi;obtain⟨_,hpl,hpw,_⟩:=a1o hkz;have hp6:n6=sn0:=by have:=hO.len;have:=HFI.out.1;have:=HHL.out;omega
          obtain⟨gp,cp,hv,hOp⟩:=hO.own (by omega);subst hv;obtain⟨P,hP⟩:∃ P,Sh.placeOf t.1 k=P:=⟨_,rfl⟩;rw[hP] at hO hOp hpl hpw hwi;have HP:=Hd hP;have h7:=H.addOwn hb6 hO;obtain⟨x,hx⟩:=a0f (l:=P) (k:=xa) (by have:=HFI.out.1;have:=HHL.out;omega);obtain⟨y,hy⟩:=a0f (l:=t.1) (k:=xa) (by have:=HFI.out.1;have:=HHL.out;omega);have hxy:=Sh.within_at hpw hy hx;have hyb:=a6i HTR xa;rw[gD,hy] at hyb;simp only[Option.getD_some] at hyb;have hcx:=hOp.cell hx;have hfx:=hOp.frozen xa;have h8:=h7.store 0 xa (x:=x+T1) ⟨by omega,by omega⟩ rfl;have hw:IntKind.i64.wrap (x+T1)=x+T1:=IntWalk.i64_in _ ⟨by omega,by omega⟩;rw[show P.set xa (x+T1)=b2e P xa T1 by rw[b2e,gD,hx];rfl] at h8;clear q0 q1 H h7 hO hOp hb6 hpl hpw hx hy hP hxy hyb
          go_upto_region 38 with fail
          generalize w6.setCell ⟨gp,xa,none⟩ (.int .i64 (x+T1))=w7 at *;clear hcx hfx;have H:=Hd h8;clear h8;subst hp6;have hix:=a7c HRO hwi.1 hwi.2;obtain⟨K,hK⟩:=eZ hix.1;have hKN:K < N:=by have:=HN.out;omega
          obtain⟨gb,cb,hv,hO⟩:=(H.ownS 3 rfl).own (by omega);injection hv with hv1 _ hv3
          subst hv1;subst hv3;obtain⟨o0,o1⟩:=H.z2 1 rfl;have q0:=H.oldCell (by rw[a0g];exact hbl) HQ0;have q1:=H.oC HQ1.out (by simp only[a0g];exact hbl);obtain⟨bd,X,hBA,hbd,hX,_,hfX⟩:=((a0u HTE).2).at_ (k:=k) hlk;subst hBA;have HDX:=Hd hX;have hcX:=((a0u (H.oldTen HTE)).2).get hX;obtain⟨z,hz⟩:=a0f (l:=scat (a5u xa l i) t.2 (b9t (a2o xa l) xa t.1 T1) k) (k:=K) (by rw[a7w,b3z];have:=HN.out;omega);have HZ:=Hd hz;have HFX:=Hd hfX;have HST:=Hd (b9g (o:=a5u xa l i) (ix:=(b9t (a2o xa l) xa t.1 T1)) hX);have HK:=Hd (show(b9t (a2o xa l) xa t.1 T1) k=K by rw[b9t,HP.out,hK];rfl);have C1:Calls prog 129 #[.slice (some ⟨gs,0,none⟩) n6 cs,.slice (some ⟨gp,0,none⟩) n6 cp] w7.drew fun e w'=>e=.returned (.int .i64 K)∧Below w7.drew.heap.size w7.drew w':=by rw[←hK];exact(a8i ((H.drew.ownInts 4 rfl).2.2) ((H.drew.ownInts 0 rfl).2.2)).mono fun _ _ ⟨e,k,h⟩=>⟨e,by rw[h];exact a0w (Below.refl _ _) k⟩
          have HC:=Hd C1;clear hO hwi hix hK C1 o0 q0 hX hz hfX
          go_region_held3 (fun w'=>w'.cell? ⟨gt,1,none⟩=some (.slice (some ⟨gb,0,none⟩) N dcO)∧w'.cell? ⟨(a.add (i*2)).block,(a.add (i*2)).off+1,none⟩=some (.slice (some bd) dn dc)∧w'.cell? (bd.add k)=some (.int .i64 X)) (go_keep)
           (first|(go_at_call 129;refine HC.mono ?_;rintro e7 w8 ⟨rfl,hb7⟩;have H7:=Hd (H.drew.below hb7);have m0:=H7.c 1 1;have m1:=H7.oC HQ1.out (by simp only[a0g];exact hbl);have m2:=((a0u (H7.oldTen HTE)).2).get HDX;have hcs:=(H7.own 3 rfl).cell HZ;have hfs:=(H7.own 3 rfl).frozen K;have HS7:=Hd (H7.store 3 K HFX rfl);have k0:=HS7.c 1 1;have k1:=HS7.oC HQ1.out (by simp only[a0g];exact hbl);have k2:=((a0u (HS7.oldTen HTE)).2).get HDX))
          clear o1 q1 m0 m1 m2 k0 k1 k2 hcs hfs hcX;go_wp2;go_roundw
          case rel=>exact⟨k+1,by go_num,by omega,by rw[←HST.out,HK.out];exact HS7.sub [1,2,3,4,5] rfl (by decide)⟩
          case measure=>simp[intOf];omega
         ·have hkn:dn=k:=by omega
          subst hkn;obtain⟨sa,y,hsA,_,hy,_,_⟩:=((a0u (H.oldTen HTE)).1).at_ (k:=xa) (by have:=HFI.out.1;have:=HHL.out;have:=HSN.out;omega);subst hsA;have hcy:=((a0u (H.oldTen HTE)).1).get hy;have hyb:=a6i HTR xa;rw[gD,hy] at hyb;simp only[Option.getD_some] at hyb;have htk:=b1q HE hy;rw[HT1.out] at htk;have HTK:=Hd htk;have hw:IntKind.i64.wrap (T1+y)=T1+y:=IntWalk.i64_in _ ⟨by omega,by omega⟩;have hxs:xa<sn:=by have:=HFI.out.1;have:=HHL.out;have:=HSN.out;omega
          have q0:=H.oldCell (by rw[a0g];exact hbl) HQ0;clear hy hyb htk;go_wp2;go_roundw
          case rel=>exact⟨i+1,by go_num,by omega,by rw[HTK.out],by rw[b8z HE.out,HT1.out,HDN.out];exact H⟩
          case measure=>simp[intOf];omega
       ·have hin:n=i:=by omega
        subst hin;have HQ2:=Hd (show a6r (xa:Int) l=(0,a2o xa l,a5u xa l n) by rw[HQ.out,HLN.out];rfl);obtain⟨o0,o1⟩:=H.z2 0 rfl;obtain⟨r0,r1,fr0,fr1⟩:=H.b2 4;go_wp2;rw[HQ2.out];exact sY2 ((H.setBox 4 0 (.slice S1 ns scO) rfl).setBox 4 1 (.slice D1 N dcO) rfl) 4 1 2 (.int .i64 0) results82
end Go.Proofs.YtjblengklgkgfaaGreat
