import Derived.Test.YtnnmplkgenhofaaGreatPad
import Derived.Test.YtnnmplkgenhofaaGreatPao
set_option maxRecDepth 100000
set_option maxHeartbeats 12800000
namespace Go.Proofs.YtnnmplkgenhofaaGreat
open Go.RowKit
theorem ref4Pad_any {w:World} {v:Value} {Al Ah:Option Addr} {nl cl nh ch:Nat} {s d lo hi:List Int} (x0:Int) (h:Ten w v s d) (hL:Ints w Al nl lo) (hH:Ints w Ah nh hi) (hx0:Fits x0) :
  Calls Tryz.prog 73 #[v,.slice Al nl cl,.slice Ah nh ch,.int .i64 x0] w fun e w' => (∃ u,e=.returned (.tuple #[u,.int .i64 (padR s d lo hi x0).1])∧OTen w' w.heap.size u (padR s d lo hi x0).2.1 (padR s d lo hi x0).2.2)∧Below w.heap.size w w' := by
 obtain⟨A,n,c,B,m,e,rfl,hnc,hme,hI,hJ⟩:=h;have h1:=((((((Sep.nil w).old hH).old hL).old hJ).old hI).allocBox w.heap.size 71 [.slice A n c,.slice B m e] rfl).allocBox (w.heap.size+1) 71 [.slice none 0 0,.slice none 0 0] (by simp);have hsl:=hI.len;have hnle:=hI.le;have hmle:=hJ.le;have HFD:=Hd hJ.fit;have HDL:=Hd hJ.len;have hllo:=hL.len;have hlelo:=hL.le;have hlhi:=hH.len;have hlehi:=hH.le
 go_enter Tryz.func73,Tryz.ntmps73
 go_upto_region 1 with fail
 generalize (w.alloc (.cells #[.slice A n c,.slice B m e] 71)).alloc (.cells #[.slice none 0 0,.slice none 0 0] 71)=W at *;have H:=Hd h1;clear h1 hI hJ hL hH;have HSL:=Hd hsl;clear hsl;have HLlo:=Hd hllo;clear hllo;have HLhi:=Hd hlhi;clear hlhi;have hT:=ten_mk (H.out.oldInts 2 rfl) hnc (H.out.oldInts 3 rfl) hme;have C1:=refTensor_any hT;have HT:=Hd hT;clear hT;obtain ⟨t0,t1⟩:=H.out.z2 1 rfl
 go_wp2_with fail
 cases hr:tenRight s d with
 | false =>
  rw[hr] at C1;refine C1.mono ?_;rintro e2 w2 ⟨rfl,hb2⟩;replace H:=Hd (H.out.below hb2);have HX:=Hd (padR_shape (lo:=lo) (hi:=hi) (n:=x0) hr);obtain ⟨r0,r1⟩:=H.out.z2 0 rfl;obtain ⟨fr0,fr1⟩:=H.out.f2 0 rfl;clear hb2 hr C1 t0 t1;go_wp2;rw[HX.out]
  exact sep_ret2 ((H.out.setBox 0 0 (.slice none 0 0) rfl).setBox 0 1 (.slice none 0 0) rfl) 0 rfl (z:=.int .i64 13) Tryz.results73 rfl rfl rfl ⟨⟨_,rfl,_,_,0,0,rfl,OwnS.nil_ _ _ _,OwnS.nil_ _ _ _⟩,((H.out.setBox 0 0 (.slice none 0 0) rfl).setBox 0 1 (.slice none 0 0) rfl).base⟩
 | true =>
  rw[hr] at C1;refine C1.mono ?_;rintro e2 w2 ⟨rfl,hb2⟩;replace H:=Hd (H.out.below hb2);have HRT:=Hd hr;clear hb2 hr C1 t0 t1 HT;have hn4:n≤4:=by have:=(right_len HRT.out).1;have:=HSL.out;omega
  obtain ⟨t0,t1⟩:=H.out.z2 1 rfl;by_cases hlen:nl=n∧nh=n;rotate_left
  ·have HX:=Hd (padR_arg (lo:=lo) (hi:=hi) (n:=x0) HRT.out (fun hc=>by have:=hc.1;have:=hc.2.1;have:=HSL.out;have:=HLlo.out;have:=HLhi.out;omega));have hg:((nl:Int) != (n:Int))=true∨(((nl:Int) != (n:Int))=false∧((nh:Int) != (n:Int))=true):=by simp;omega
   clear hlen;obtain ⟨r0,r1⟩:=H.out.z2 0 rfl;obtain ⟨fr0,fr1⟩:=H.out.f2 0 rfl;rcases hg with hg|⟨hg,hg2⟩
   all_goals (
    go_wp2;rw[HX.out]
    exact sep_ret2 ((H.out.setBox 0 0 (.slice none 0 0) rfl).setBox 0 1 (.slice none 0 0) rfl) 0 rfl (z:=.int .i64 1) Tryz.results73 rfl rfl rfl ⟨⟨_,rfl,_,_,0,0,rfl,OwnS.nil_ _ _ _,OwnS.nil_ _ _ _⟩,((H.out.setBox 0 0 (.slice none 0 0) rfl).setBox 0 1 (.slice none 0 0) rfl).base⟩)
  obtain⟨rfl,rfl⟩:=hlen;replace H:=Hd (H.out.addNil 3)
  go_wp2_with fail
  go_loopw [37,10] (fun kv vs wr=>∃ j:Nat,kv=.int .i64 j∧j≤nh∧(∀ k,k<j→PadAt lo hi k)∧Sep w wr [.own 3 vs j ((padS s lo hi).take j),.box (w.heap.size+1) 71 [.slice none 0 0,.slice none 0 0],.box w.heap.size 71 [.slice A nh c,.slice B m e],.ints A nh s,.ints B m d,.ints Al nh lo,.ints Ah nh hi]) (fun kv _ _=>nh-(intOf kv).toNat)
  case atStart=>exact⟨0,rfl,by omega,fun k hk=>by omega,H.out⟩
  case round =>
   clear H;obtain⟨j,rfl,hj,hall,hS⟩:=hrel;have HA:=Hd hall;clear hall;by_cases hlt:j<nh
   ·obtain⟨la,x,hlA,_,hx,hcx,hfx⟩:=(hS.oldInts 5 rfl).at_ (k:=j) hlt;obtain⟨ha,y,hhA,_,hy,hcy,hfy⟩:=(hS.oldInts 6 rfl).at_ (k:=j) hlt;obtain⟨sa,z,hsA,_,hz,hcz,hfz⟩:=(hS.oldInts 3 rfl).at_ (k:=j) hlt;subst hlA;subst hhA;subst hsA;have hzb:=(Sh.right_iff.1 (right_of HRT.out)).2.1 z (List.mem_of_getElem? hz);have HE:=Hd (⟨hx,hy,hz⟩:_∧_∧_);clear hx hy hz hfz;have H:=Hd hS;clear hS;have HBAD:=Hd (fun (hbad:¬ (0≤x∧0≤y∧x≤32∧y≤32))=>padR_arg (n:=x0) (d:=d) (lo:=lo) (hi:=hi) HRT.out (fun hc=>hbad (hc.2.2 j x y HE.out.1 HE.out.2.1)));obtain⟨hfx1,hfx2⟩:=hfx;obtain⟨hfy1,hfy2⟩:=hfy;by_cases g0:x<0
    ·have d0:decide (x<0)=true:=by simpa using g0
     have HX:=Hd (HBAD.out (by omega));obtain ⟨r0,r1⟩:=H.out.z2 1 rfl;obtain ⟨fr0,fr1⟩:=H.out.f2 1 rfl;go_wp2;rw[HX.out];exact sep_ret2 ((H.out.setBox 1 0 (.slice none 0 0) rfl).setBox 1 1 (.slice none 0 0) rfl) 1 rfl (z:=.int .i64 1) Tryz.results73 rfl rfl rfl ⟨⟨_,rfl,_,_,0,0,rfl,OwnS.nil_ _ _ _,OwnS.nil_ _ _ _⟩,((H.out.setBox 1 0 (.slice none 0 0) rfl).setBox 1 1 (.slice none 0 0) rfl).base⟩
    have d0:decide (x<0)=false:=by simpa using g0
    by_cases g1:y<0
    ·have d1:decide (y<0)=true:=by simpa using g1
     have HX:=Hd (HBAD.out (by omega));obtain ⟨r0,r1⟩:=H.out.z2 1 rfl;obtain ⟨fr0,fr1⟩:=H.out.f2 1 rfl;go_wp2;rw[HX.out];exact sep_ret2 ((H.out.setBox 1 0 (.slice none 0 0) rfl).setBox 1 1 (.slice none 0 0) rfl) 1 rfl (z:=.int .i64 1) Tryz.results73 rfl rfl rfl ⟨⟨_,rfl,_,_,0,0,rfl,OwnS.nil_ _ _ _,OwnS.nil_ _ _ _⟩,((H.out.setBox 1 0 (.slice none 0 0) rfl).setBox 1 1 (.slice none 0 0) rfl).base⟩
    have d1:decide (y<0)=false:=by simpa using g1
    by_cases g2:32<x
    ·have d2:decide (32<x)=true:=by simpa using g2
     have HX:=Hd (HBAD.out (by omega));obtain ⟨r0,r1⟩:=H.out.z2 1 rfl;obtain ⟨fr0,fr1⟩:=H.out.f2 1 rfl;go_wp2;rw[HX.out];exact sep_ret2 ((H.out.setBox 1 0 (.slice none 0 0) rfl).setBox 1 1 (.slice none 0 0) rfl) 1 rfl (z:=.int .i64 1) Tryz.results73 rfl rfl rfl ⟨⟨_,rfl,_,_,0,0,rfl,OwnS.nil_ _ _ _,OwnS.nil_ _ _ _⟩,((H.out.setBox 1 0 (.slice none 0 0) rfl).setBox 1 1 (.slice none 0 0) rfl).base⟩
    have d2:decide (32<x)=false:=by simpa using g2
    by_cases g3:32<y
    ·have d3:decide (32<y)=true:=by simpa using g3
     have HX:=Hd (HBAD.out (by omega));obtain ⟨r0,r1⟩:=H.out.z2 1 rfl;obtain ⟨fr0,fr1⟩:=H.out.f2 1 rfl;go_wp2;rw[HX.out];exact sep_ret2 ((H.out.setBox 1 0 (.slice none 0 0) rfl).setBox 1 1 (.slice none 0 0) rfl) 1 rfl (z:=.int .i64 1) Tryz.results73 rfl rfl rfl ⟨⟨_,rfl,_,_,0,0,rfl,OwnS.nil_ _ _ _,OwnS.nil_ _ _ _⟩,((H.out.setBox 1 0 (.slice none 0 0) rfl).setBox 1 1 (.slice none 0 0) rfl).base⟩
    have d3:decide (32<y)=false:=by simpa using g3
    clear HBAD;have hw1:IntKind.i64.wrap (x+z)=x+z:=IntWalk.i64_in _ ⟨by omega,by omega⟩;have hw2:IntKind.i64.wrap (x+z+y)=x+z+y:=IntWalk.i64_in _ ⟨by omega,by omega⟩
    go_upto_region 11 with fail
    have H8:=Hd H.out.drew;obtain ⟨t0,t1⟩:=H.out.z2 2 rfl
    go_region_law (refine step_append_sep rfl (.tmp 67) (.tmp 83) 22 3 rfl Tryz.underlying22 Tryz.infoInt H8.out 0 rfl rfl (x+z+y) ⟨by omega,by omega⟩ _ rfl ?_ ?_;(focus omega);intro v' w' h';have H9:=Hd h';clear h')
    all_goals (
     clear t0 t1 hcx hcy hcz;go_wp2;go_roundw
     case rel=>exact⟨j+1,by go_num,by omega,fun k hk=>by
      rcases Nat.lt_or_ge k j with h' | h'
      ·exact HA.out k h'
      ·obtain rfl:k=j:=by omega
       intro x y hx hy;rw[HE.out.1] at hx;rw[HE.out.2.1] at hy;injection hx with hx;injection hy with hy;subst hx;subst hy
       exact⟨by omega,by omega,by omega,by omega⟩,
      by rw[← padS_take HE.out.1 HE.out.2.2 HE.out.2.1];exact H9.out⟩
     case measure=>simp[intOf];omega)
   ·have hjn:nh=j:=by omega
    subst hjn;rw[show(padS s lo hi).take nh=padS s lo hi from List.take_of_length_le (by rw[padS_length (by have:=HSL.out;have:=HLlo.out;omega) (by have:=HSL.out;have:=HLhi.out;omega)];have:=HSL.out;omega)] at hS;have HOK:=Hd (show PadOk s lo hi from⟨by have:=HSL.out;have:=HLlo.out;omega,by have:=HSL.out;have:=HLhi.out;omega,fun k x y hx hy=>HA.out k (by have:=(List.getElem?_eq_some_iff.1 hx).1;have:=HLlo.out;omega) x y hx hy⟩);obtain⟨At,ct,hvt,hct,_,_⟩:=(hS.ownS 0 rfl).form;subst hvt;have H:=Hd hS;clear hS HA hlt;have C2:=refRight_any (c:=ct) ((H.out.ownInts 0 rfl).2.2)
    go_wp2_with fail
    cases ho:Sh.right (padS s lo hi) with
    | false =>
     rw[ho] at C2;refine C2.mono ?_;rintro e3 w3 ⟨rfl,rfl⟩;have HX:=Hd (padR_shape2 (n:=x0) HRT.out HOK.out ho);obtain ⟨r0,r1⟩:=H.out.z2 1 rfl;obtain ⟨fr0,fr1⟩:=H.out.f2 1 rfl;clear ho C2;go_wp2;rw[HX.out]
     exact sep_ret2 ((H.out.setBox 1 0 (.slice none 0 0) rfl).setBox 1 1 (.slice none 0 0) rfl) 1 rfl (z:=.int .i64 13) Tryz.results73 rfl rfl rfl ⟨⟨_,rfl,_,_,0,0,rfl,OwnS.nil_ _ _ _,OwnS.nil_ _ _ _⟩,((H.out.setBox 1 0 (.slice none 0 0) rfl).setBox 1 1 (.slice none 0 0) rfl).base⟩
    | true =>
     rw[ho] at C2;refine C2.mono ?_;rintro e3 w3 ⟨rfl,rfl⟩;have HRO:=Hd ho;clear ho C2
     go_wp2_with fail
     refine(refFill_any x0 ((H.out.ownInts 0 rfl).2.2) (by omega) hx0).mono ?_;rintro e4 w4 ⟨⟨u,rfl,hu⟩,hb4⟩;obtain⟨S1,ns,sc,D1,N,dc,rfl,hs1,hd1,hsc,hdc,hNle,h5⟩:=H.out.addTen hb4 hu;rw[List.length_replicate] at hd1;rw[hd1] at h5;have HN:=Hd hd1;have HQ:=Hd (padR_ok (n:=x0) HRT.out HOK.out HRO.out);have h6:=h5.allocBox w4.heap.size 71 [.slice S1 ns sc,.slice D1 N dc] rfl;clear hu hb4 h5 hd1 hs1
     go_upto_region 16 with fail
     generalize w4.alloc (.cells #[.slice S1 ns sc,.slice D1 N dc] 71)=w5 at *;generalize w4.heap.size=gt at *;replace H:=Hd h6;clear h6;obtain ⟨t0,t1⟩:=H.out.z2 5 rfl
     go_wp2_with fail
     clear t0 t1
     go_loopw [96] (fun kv wr=>∃ i:Nat,kv=.int .i64 i∧i≤m∧Sep w wr [.box gt 71 [.slice S1 ns sc,.slice D1 N dc],.own 3 (.slice S1 ns sc) ns (padS s lo hi),.own 2 (.slice D1 N dc) N (scat (List.replicate N x0) d (fun i=>(Sh.index (padS s lo hi) (addP (Sh.placeOf s i) lo)).toNat) i),.own 3 (.slice At nh ct) nh (padS s lo hi),.box (w.heap.size+1) 71 [.slice none 0 0,.slice none 0 0],.box w.heap.size 71 [.slice A nh c,.slice B m e],.ints A nh s,.ints B m d,.ints Al nh lo,.ints Ah nh hi]) (fun kv _=>m-(intOf kv).toNat)
     case atStart=>exact⟨0,rfl,by omega,H.out⟩
     case round =>
      clear H;obtain⟨i,rfl,hile,hS⟩:=hrel;have H:=Hd hS;clear hS;by_cases hli:i<m
      ·have hiz:(i:Int)<Sh.size s:=by have:=len_right HRT.out;have:=HDL.out;omega
       obtain ⟨t0,t1⟩:=H.out.z2 5 rfl
       go_wp2_with fail
       refine(refPlace_own i (H.out.oldInts 6 rfl) ⟨by omega,by omega⟩).mono ?_;rintro e6 w6 ⟨⟨v,n6,rfl,hO⟩,hb6⟩;obtain⟨A6,c6,rfl,hc6,_,_⟩:=hO.form;obtain⟨_,hpl,hpw,_⟩:=placeOf_of hiz;have hp6:nh=n6:=by have:=hO.len;have:=HSL.out;omega
       replace H:=Hd (H.out.addOwn hb6 hO);obtain⟨P,hP⟩:∃ P,Sh.placeOf s i=P:=⟨_,rfl⟩;have H' := Hd (show Sep w w6 (.own 3 (.slice A6 n6 c6) n6 P::_) by rw[← hP];exact H.out);rw[hP] at hpl hpw;have HP:=Hd hP;have HPL:=Hd (show P.length=nh by have:=HSL.out;omega);have HPW:=Hd hpw;clear H hb6 hO hP hpl hpw hc6 t0 t1;subst hp6
       go_wp2_with fail
       go_loopw [105] (fun kv wr=>∃ k:Nat,kv=.int .i64 k∧k≤nh∧Sep w wr [.own 3 (.slice A6 nh c6) nh (mix (addP P lo) P k),.box gt 71 [.slice S1 ns sc,.slice D1 N dc],.own 3 (.slice S1 ns sc) ns (padS s lo hi),.own 2 (.slice D1 N dc) N (scat (List.replicate N x0) d (fun i=>(Sh.index (padS s lo hi) (addP (Sh.placeOf s i) lo)).toNat) i),.own 3 (.slice At nh ct) nh (padS s lo hi),.box (w.heap.size+1) 71 [.slice none 0 0,.slice none 0 0],.box w.heap.size 71 [.slice A nh c,.slice B m e],.ints A nh s,.ints B m d,.ints Al nh lo,.ints Ah nh hi]) (fun kv _=>nh-(intOf kv).toNat)
       case atStart=>exact⟨0,rfl,by omega,by rw[mix_zero];exact H'.out⟩
       case round =>
        clear H';obtain⟨k,rfl,hk,hS⟩:=hrel;have hal:(addP P lo).length=P.length:=addP_length (by have:=HPL.out;have:=HLlo.out;omega);by_cases hlk:k<nh
        ·obtain⟨gp,cp,hv,hOp⟩:=(hS.ownS 0 rfl).own (by omega);injection hv with hv1 _ hv3
         subst hv1;subst hv3;obtain⟨x,hx⟩:=getElem_of (l:=P) (k:=k) (by have:=HPL.out;omega);obtain⟨la,y,hlA,_,hy,hcy,hfy⟩:=(hS.oldInts 9 rfl).at_ (k:=k) hlk;subst hlA;have hcx:=hOp.cell (j:=k) (x:=x) (by rw[mix_at hal (by have:=HPL.out;omega)];exact hx);have hfr:=hOp.frozen k;obtain⟨sa,hsa⟩:=getElem_of (l:=s) (k:=k) (by have:=HSL.out;omega);obtain⟨hh,hhh⟩:=getElem_of (l:=hi) (k:=k) (by have:=HLhi.out;omega);have hb1:=Sh.within_at HPW.out hsa hx;have hb2:=HOK.out.2.2 k y hh hy hhh;have hb3:=(Sh.right_iff.1 (right_of HRT.out)).2.1 sa (List.mem_of_getElem? hsa);have hS2:=hS.store 0 k (x:=x+y) ⟨by omega,by omega⟩ rfl;have hw:IntKind.i64.wrap (x+y)=x+y:=IntWalk.i64_in _ ⟨by omega,by omega⟩;rw[mix_set hal (addP_at hx hy)] at hS2;have HS2:=Hd hS2;clear hS hS2 hOp hx hy hsa hhh hal hfy hb1 hb2 hb3
         go_upto_region 23 with fail
         go_still_tail 12,(by kernel_rfl)
         change wpList _ _ _ _ _ wr.drew;have hcx1:wr.drew.cell? ⟨gp,k,none⟩=some (.int .i64 x):=hcx;have hfr1:wr.drew.frozen? ⟨gp,k,none⟩=false:=hfr;go_wp2;go_roundw
         case rel=>exact⟨k+1,by go_num,by omega,HS2.out.drew⟩
         case measure=>simp[intOf];omega
        ·have hkn:nh=k:=by omega
         subst hkn;rw[show mix (addP P lo) P nh=addP P lo by have:=mix_full (t:=addP P lo) (o:=P) hal;rwa [HPL.out] at this] at hS;have hwi:=pad_within HOK.out hiz;have hix:=index_lt HRO.out hwi.1 hwi.2;rw[HP.out] at hwi hix;obtain⟨K,hK⟩:=Int.eq_ofNat_of_zero_le hix.1;have hKN:K < N:=by have:=HN.out;omega
         obtain⟨gb,cb,hv,hO⟩:=(hS.ownS 3 rfl).own (by omega);injection hv with hv1 _ hv3
         subst hv1;subst hv3;have H:=Hd hS;obtain ⟨o0,o1⟩:=H.out.z2 1 rfl;obtain ⟨t0,t1⟩:=H.out.z2 6 rfl;obtain⟨bd,X,hBA,_,hX,hcX,hfX⟩:=(H.out.oldInts 8 rfl).at_ (k:=i) hli;subst hBA;obtain⟨z,hz⟩:=getElem_of (l:=scat (List.replicate N x0) d (fun i=>(Sh.index (padS s lo hi) (addP (Sh.placeOf s i) lo)).toNat) i) (k:=K) (by rw[scat_length,List.length_replicate];exact hKN);have HZ:=Hd hz;have HFX:=Hd hfX;have HST:=Hd (scat_step (o:=List.replicate N x0) (ix:=(fun i=>(Sh.index (padS s lo hi) (addP (Sh.placeOf s i) lo)).toNat)) hX);have HK:=Hd (show(fun i=>(Sh.index (padS s lo hi) (addP (Sh.placeOf s i) lo)).toNat) i=K by show(Sh.index (padS s lo hi) (addP (Sh.placeOf s i) lo)).toNat=K;rw[HP.out,hK];rfl);have C1:Calls Tryz.prog 98 #[.slice At nh ct,.slice A6 nh c6] wr.drew fun e w' => e=.returned (.int .i64 K)∧Below wr.drew.heap.size wr.drew w' := by rw[← hK];exact(refIndex_any ((H.out.drew.ownInts 4 rfl).2.2) ((H.out.drew.ownInts 0 rfl).2.2)).mono fun _ _ ⟨e,k,h⟩=>⟨e,by rw[h];exact below_drewN (Below.refl _ _) k⟩
         have HDX:=Hd hX;have HC:=Hd C1;clear hS hO hwi hix hK C1 o0 hX hz hfX
         go_upto_region 25 with fail
         go_region_held3 (fun w' => w'.cell? ⟨gt,1,none⟩=some (.slice (some ⟨gb,0,none⟩) N dc)∧w'.cell? ⟨w.heap.size,1,none⟩=some (.slice (some bd) m e)∧w'.cell? (bd.add i)=some (.int .i64 X)) (go_keep)
          (first|(go_at_call 98;refine HC.out.mono ?_;rintro e7 w7 ⟨rfl,hb7⟩;have H7:=Hd (H.out.drew.below hb7);have m0:=H7.out.cell 1 1 rfl rfl;have m1:=H7.out.cell 6 1 rfl rfl;have m9:=(H7.out.oldInts 8 rfl).get HDX.out;have hcs:=(H7.out.own 3 rfl).cell HZ.out;have hfs:=(H7.out.own 3 rfl).frozen K;have HS7:=Hd (H7.out.store 3 K HFX.out rfl);have k0:(w7.setCell ⟨gb,K,none⟩ (.int .i64 X)).cell? ⟨gt,1,none⟩=some (.slice (some ⟨gb,0,none⟩) N dc):=HS7.out.cell 1 1 rfl rfl;have k1:(w7.setCell ⟨gb,K,none⟩ (.int .i64 X)).cell? ⟨w.heap.size,1,none⟩=some (.slice (some bd) m e):=HS7.out.cell 6 1 rfl rfl;have k9:(w7.setCell ⟨gb,K,none⟩ (.int .i64 X)).cell? (bd.add i)=some (.int .i64 X):=(HS7.out.oldInts 8 rfl).get HDX.out))
         clear o1 t0 t1 m0 m1 m9 k0 k1 k9 hcs hfs hcX;go_wp2;go_roundw
         case rel=>exact⟨i+1,by go_num,by omega,by rw[← HST.out,HK.out];exact HS7.out.sub [1,2,3,4,5,6,7,8,9,10] rfl (by decide)⟩
         case measure=>simp[intOf];omega
      ·have hin:m=i:=by omega
       subst hin;rw[show scat (List.replicate N x0) d (fun i=>(Sh.index (padS s lo hi) (addP (Sh.placeOf s i) lo)).toNat) m=padD s d lo hi x0 by rw[padD,HDL.out,HN.out]] at H;obtain ⟨o0,o1⟩:=H.out.z2 0 rfl;obtain ⟨r0,r1⟩:=H.out.z2 4 rfl;obtain ⟨fr0,fr1⟩:=H.out.f2 4 rfl;go_wp2;rw[HQ.out];exact sep_ret2 ((H.out.setBox 4 0 (.slice S1 ns sc) rfl).setBox 4 1 (.slice D1 N dc) rfl) 4 rfl (z:=.int .i64 0) Tryz.results73 rfl rfl rfl ⟨⟨_,rfl,_,_,ns,N,rfl,((H.out.setBox 4 0 (.slice S1 ns sc) rfl).setBox 4 1 (.slice D1 N dc) rfl).ownS 1 rfl,((H.out.setBox 4 0 (.slice S1 ns sc) rfl).setBox 4 1 (.slice D1 N dc) rfl).ownS 2 rfl⟩,((H.out.setBox 4 0 (.slice S1 ns sc) rfl).setBox 4 1 (.slice D1 N dc) rfl).base⟩
end Go.Proofs.YtnnmplkgenhofaaGreat
