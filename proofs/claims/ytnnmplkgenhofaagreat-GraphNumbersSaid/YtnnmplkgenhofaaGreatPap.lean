import Derived.Test.YtnnmplkgenhofaaGreatPad
import Derived.Test.YtnnmplkgenhofaaGreatPao
set_option maxRecDepth 100000
set_option maxHeartbeats 12800000
namespace Go.Proofs.YtnnmplkgenhofaaGreat
open Go.RowKit
theorem ref4Spread_any {w:World} {v:Value} {Ao Aa:Option Addr} {no co na ca:Nat} {s d o a:List Int} (h:Ten w v s d) (hO:Ints w Ao no o) (hA:Ints w Aa na a) :
  Calls Tryz.prog 71 #[v,.slice Ao no co,.slice Aa na ca] w fun e w' => (∃ u,e=.returned (.tuple #[u,.int .i64 (spR s d o a).1])∧OTen w' w.heap.size u (spR s d o a).2.1 (spR s d o a).2.2)∧Below w.heap.size w w' := by
 obtain⟨A,n,c,B,m,e,rfl,hnc,hme,hI,hJ⟩:=h;have h1:=((((((Sep.nil w).old hA).old hO).old hJ).old hI).allocBox w.heap.size 71 [.slice A n c,.slice B m e] rfl).allocBox (w.heap.size+1) 71 [.slice none 0 0,.slice none 0 0] (by simp);have hsl:=hI.len;have hnle:=hI.le;have hmle:=hJ.le;have HFD:=Hd hJ.fit;have HDL:=Hd hJ.len;have hlo:=hO.len;have hleo:=hO.le;have hla:=hA.len;have hlea:=hA.le
 go_enter Tryz.func71,Tryz.ntmps71
 go_upto_region 1 with fail
 generalize (w.alloc (.cells #[.slice A n c,.slice B m e] 71)).alloc (.cells #[.slice none 0 0,.slice none 0 0] 71)=W at *;have H:=Hd h1;clear h1 hI hJ hO hA;have HSL:=Hd hsl;clear hsl;have HLo:=Hd hlo;clear hlo;have HLa:=Hd hla;clear hla;have hT:=ten_mk (H.out.oldInts 2 rfl) hnc (H.out.oldInts 3 rfl) hme;have C1:=refTensor_any hT;have HT:=Hd hT;clear hT;obtain ⟨t0,t1⟩:=H.out.z2 1 rfl
 go_wp2_with fail
 cases hr:tenRight s d with
 | false =>
  rw[hr] at C1;refine C1.mono ?_;rintro e2 w2 ⟨rfl,hb2⟩;replace H:=Hd (H.out.below hb2);have HX:=Hd (spR_shape (s:=s) (d:=d) (o:=o) (a:=a) (by rw[hr];rfl));obtain ⟨r0,r1⟩:=H.out.z2 0 rfl;obtain ⟨fr0,fr1⟩:=H.out.f2 0 rfl;clear hb2 hr C1 t0 t1;go_wp2;rw[HX.out]
  exact sep_ret2 ((H.out.setBox 0 0 (.slice none 0 0) rfl).setBox 0 1 (.slice none 0 0) rfl) 0 rfl (z:=.int .i64 13) Tryz.results71 rfl rfl rfl ⟨⟨_,rfl,_,_,0,0,rfl,OwnS.nil_ _ _ _,OwnS.nil_ _ _ _⟩,((H.out.setBox 0 0 (.slice none 0 0) rfl).setBox 0 1 (.slice none 0 0) rfl).base⟩
 | true =>
  rw[hr] at C1;refine C1.mono ?_;rintro e2 w2 ⟨rfl,hb2⟩;replace H:=Hd (H.out.below hb2);have HRT:=Hd hr;clear hb2 hr C1 t0 t1 HT;have C2:=refRight_any (c:=co) (H.out.oldInts 4 rfl)
  go_wp2_with fail
  cases ho:Sh.right o with
  | false =>
   rw[ho] at C2;refine C2.mono ?_;rintro e3 w3 ⟨rfl,rfl⟩;have HX:=Hd (spR_shape (s:=s) (d:=d) (o:=o) (a:=a) (by rw[HRT.out,ho];rfl));obtain ⟨r0,r1⟩:=H.out.z2 0 rfl;obtain ⟨fr0,fr1⟩:=H.out.f2 0 rfl;clear ho C2;go_wp2;rw[HX.out]
   exact sep_ret2 ((H.out.setBox 0 0 (.slice none 0 0) rfl).setBox 0 1 (.slice none 0 0) rfl) 0 rfl (z:=.int .i64 13) Tryz.results71 rfl rfl rfl ⟨⟨_,rfl,_,_,0,0,rfl,OwnS.nil_ _ _ _,OwnS.nil_ _ _ _⟩,((H.out.setBox 0 0 (.slice none 0 0) rfl).setBox 0 1 (.slice none 0 0) rfl).base⟩
  | true =>
   rw[ho] at C2;refine C2.mono ?_;rintro e3 w3 ⟨rfl,rfl⟩;have HRO:=Hd (show(tenRight s d && Sh.right o)=true by rw[HRT.out,ho];rfl);have HR2:=Hd ho;clear ho C2;obtain ⟨t0,t1⟩:=H.out.z2 1 rfl;by_cases hlen:na=n;rotate_left
   ·have HX:=Hd (spR_arg (a:=a) HRO.out (fun hc=>absurd hc.1 (by have:=HSL.out;have:=HLa.out;omega)));have hg:((na:Int) != (n:Int))=true:=by simp;omega
    clear hlen;obtain ⟨r0,r1⟩:=H.out.z2 0 rfl;obtain ⟨fr0,fr1⟩:=H.out.f2 0 rfl;go_wp2;rw[HX.out];exact sep_ret2 ((H.out.setBox 0 0 (.slice none 0 0) rfl).setBox 0 1 (.slice none 0 0) rfl) 0 rfl (z:=.int .i64 1) Tryz.results71 rfl rfl rfl ⟨⟨_,rfl,_,_,0,0,rfl,OwnS.nil_ _ _ _,OwnS.nil_ _ _ _⟩,((H.out.setBox 0 0 (.slice none 0 0) rfl).setBox 0 1 (.slice none 0 0) rfl).base⟩
   obtain rfl:na=n:=hlen
   go_wp2_with fail
   go_loopw [32] (fun kv wr=>∃ j:Nat,kv=.int .i64 j∧j≤na∧(∀ k,k<j→SpAt s o a k)∧∃ q,wr=w2.drewN q) (fun kv _=>na-(intOf kv).toNat)
   case atStart=>exact⟨0,rfl,by omega,fun k hk=>by omega,0,rfl⟩
   case round =>
    obtain⟨j,rfl,hj,hall,q,rfl⟩:=hrel;have HA:=Hd hall;clear hall;by_cases hlt:j<na
    ·obtain⟨sa,y,hsA,_,hy,hcy,hfy⟩:=(H.out.oldInts 2 rfl).at_ (k:=j) hlt;obtain⟨aa,x,haA,_,hx,hcx,hfx⟩:=(H.out.oldInts 5 rfl).at_ (k:=j) hlt;subst hsA;subst haA;have HE:=Hd (⟨hx,hy⟩:_∧_);clear hx hy;have HBAD:=Hd (fun (hbad:¬ (0≤x∧x<no∧(∀ z,0<j→a[j-1]? = some z→z<x)∧o[x.toNat]? = some y))=>spR_arg (s:=s) (d:=d) (o:=o) (a:=a) HRO.out (fun hc=>hbad (by have:=hc.2 j x y HE.out.1 HE.out.2;rwa [HLo.out] at this)));obtain ⟨r0,r1⟩:=H.out.z2 0 rfl;obtain ⟨fr0,fr1⟩:=H.out.f2 0 rfl;obtain⟨hfx1,hfx2⟩:=hfx;by_cases g1:x<0
     ·have d1:decide (x<0)=true:=by simpa using g1
      have HX:=Hd (HBAD.out (by omega))
      go_wp2_with fail
      go_quiet (fail)
      go_wp2;rw[HX.out];exact sep_ret2 (((H.out.drewN _).setBox 0 0 (.slice none 0 0) rfl).setBox 0 1 (.slice none 0 0) rfl) 0 rfl (z:=.int .i64 1) Tryz.results71 rfl rfl rfl ⟨⟨_,rfl,_,_,0,0,rfl,OwnS.nil_ _ _ _,OwnS.nil_ _ _ _⟩,(((H.out.drewN _).setBox 0 0 (.slice none 0 0) rfl).setBox 0 1 (.slice none 0 0) rfl).base⟩
     have d1:decide (x<0)=false:=by simpa using g1
     by_cases g2:(no:Int)≤x
     ·have d2:decide ((no:Int)≤x)=true:=by simpa using g2
      have HX:=Hd (HBAD.out (by omega))
      go_wp2_with fail
      go_quiet (fail)
      go_wp2;rw[HX.out];exact sep_ret2 (((H.out.drewN _).setBox 0 0 (.slice none 0 0) rfl).setBox 0 1 (.slice none 0 0) rfl) 0 rfl (z:=.int .i64 1) Tryz.results71 rfl rfl rfl ⟨⟨_,rfl,_,_,0,0,rfl,OwnS.nil_ _ _ _,OwnS.nil_ _ _ _⟩,(((H.out.drewN _).setBox 0 0 (.slice none 0 0) rfl).setBox 0 1 (.slice none 0 0) rfl).base⟩
     have d2:decide ((no:Int)≤x)=false:=by simpa using g2
     obtain⟨xn,rfl⟩:=Int.eq_ofNat_of_zero_le (by omega:0≤x);have hxn:xn<no:=by omega
     have e2:decide (no≤xn)=false:=by simp;omega
     obtain⟨oa,v,hoA,_,hv,hcv,hfv⟩:=(H.out.oldInts 4 rfl).at_ (k:=xn) hxn;subst hoA;have HV:=Hd hv;clear hv
     obtain⟨jp,u,hju,hau⟩:∃(jp:Nat) (u:Int),(j=0∨(j=jp+1∧a[jp]? = some u))∧(j=0∨(w2.cell? (aa.add jp)=some (.int .i64 u))):=by
      rcases Nat.eq_zero_or_pos j with hj0|hj0
      ·exact⟨0,0,.inl hj0,.inl hj0⟩
      ·obtain⟨aa2,u,haA,_,hu,hcu,_⟩:=(H.out.oldInts 5 rfl).at_ (k:=j-1) (by omega);injection haA with haA;subst haA
       exact⟨j-1,u,.inr ⟨by omega,hu⟩,.inr hcu⟩
     have HJ:=Hd hju;clear hju;by_cases g3:0<j∧(xn:Int)≤u
     ·obtain⟨g3,g4⟩:=g3;have hcu:w2.cell? (aa.add jp)=some (.int .i64 u):=by rcases hau with h|h;exact absurd h (by omega);exact h
      have hjp:j=jp+1∧a[jp]? = some u:=by rcases HJ.out with h|h;exact absurd h (by omega);exact h
      have hw:IntKind.i64.wrap ((j:Int)-1)=(jp:Int):=by rw[show(j:Int)-1=(jp:Int) by omega];exact IntWalk.i64_in _ ⟨by omega,by omega⟩
      have d3:decide (0<j)=true:=by simpa using g3
      have d4:decide ((xn:Int)≤u)=true:=by simpa using g4
      have hjl:jp<na:=by omega
      have HX:=Hd (HBAD.out (fun hh=>absurd (hh.2.2.1 u g3 (by rw[show j-1=jp by omega];exact hjp.2)) (by omega)));clear hau hjp g3 g4
      go_wp2_with fail
      go_quiet (fail)
      go_wp2;rw[HX.out];exact sep_ret2 (((H.out.drewN _).setBox 0 0 (.slice none 0 0) rfl).setBox 0 1 (.slice none 0 0) rfl) 0 rfl (z:=.int .i64 1) Tryz.results71 rfl rfl rfl ⟨⟨_,rfl,_,_,0,0,rfl,OwnS.nil_ _ _ _,OwnS.nil_ _ _ _⟩,(((H.out.drewN _).setBox 0 0 (.slice none 0 0) rfl).setBox 0 1 (.slice none 0 0) rfl).base⟩
     by_cases hj0:j=0
     ·have d3:decide (0<j)=false:=by simp[hj0]
      have HJ0:=Hd hj0;clear hau hj0;by_cases g5:v=y
      ·subst g5;have d5:(v != v)=false:=by simp
       have HN:=Hd (show ∀ k,k<j+1→SpAt s o a k from fun k hk=>by
        rcases Nat.lt_or_ge k j with h' | h'
        ·exact HA.out k h'
        ·obtain rfl:k=j:=by omega
         intro x y hx hy;rw[HE.out.1] at hx;rw[HE.out.2] at hy;injection hx with hx;injection hy with hy;subst hx;subst hy
         exact⟨by omega,by rw[HLo.out];omega,fun z hz=>absurd HJ0.out (by omega),HV.out⟩)
       clear HBAD HE r0 r1 fr0 fr1
       go_wp2_with fail
       go_quiet (fail)
       go_wp2;go_roundw
       case rel=>exact⟨j+1,by go_num,by omega,HN.out,_,rfl⟩
       case measure=>simp[intOf];omega
      ·have d5:(v != y)=true:=by simpa using g5
       have HX:=Hd (HBAD.out (fun hh=>g5 (by have h3:=hh.2.2.2;rw[Int.toNat_natCast,HV.out] at h3;injection h3)))
       go_wp2_with fail
       go_quiet (fail)
       go_wp2;rw[HX.out];exact sep_ret2 (((H.out.drewN _).setBox 0 0 (.slice none 0 0) rfl).setBox 0 1 (.slice none 0 0) rfl) 0 rfl (z:=.int .i64 1) Tryz.results71 rfl rfl rfl ⟨⟨_,rfl,_,_,0,0,rfl,OwnS.nil_ _ _ _,OwnS.nil_ _ _ _⟩,(((H.out.drewN _).setBox 0 0 (.slice none 0 0) rfl).setBox 0 1 (.slice none 0 0) rfl).base⟩
     ·have d3:decide (0<j)=true:=by simp;omega
      have hcu:w2.cell? (aa.add jp)=some (.int .i64 u):=by rcases hau with h|h;exact absurd h hj0;exact h
      have hjp:j=jp+1∧a[jp]? = some u:=by rcases HJ.out with h|h;exact absurd h hj0;exact h
      have hw:IntKind.i64.wrap ((j:Int)-1)=(jp:Int):=by rw[show(j:Int)-1=(jp:Int) by omega];exact IntWalk.i64_in _ ⟨by omega,by omega⟩
      have d4:decide ((xn:Int)≤u)=false:=by simp;omega
      have hjl:jp<na:=by omega
      have HJP:=Hd hjp;clear hau hjp hj0;by_cases g5:v=y
      ·subst g5;have d5:(v != v)=false:=by simp
       have HN:=Hd (show ∀ k,k<j+1→SpAt s o a k from fun k hk=>by
        rcases Nat.lt_or_ge k j with h' | h'
        ·exact HA.out k h'
        ·obtain rfl:k=j:=by omega
         intro x y hx hy;rw[HE.out.1] at hx;rw[HE.out.2] at hy;injection hx with hx;injection hy with hy;subst hx;subst hy
         exact⟨by omega,by rw[HLo.out];omega,fun z hz hz2=>by have:=HJP.out;rw[show k-1=jp by have:=HJP.out.1;omega,this.2] at hz2;injection hz2 with hz2;omega,HV.out⟩)
       clear HBAD HE r0 r1 fr0 fr1
       go_wp2_with fail
       go_quiet (fail)
       go_wp2;go_roundw
       case rel=>exact⟨j+1,by go_num,by omega,HN.out,_,rfl⟩
       case measure=>simp[intOf];omega
      ·have d5:(v != y)=true:=by simpa using g5
       have HX:=Hd (HBAD.out (fun hh=>g5 (by have h3:=hh.2.2.2;rw[Int.toNat_natCast,HV.out] at h3;injection h3)))
       go_wp2_with fail
       go_quiet (fail)
       go_wp2;rw[HX.out];exact sep_ret2 (((H.out.drewN _).setBox 0 0 (.slice none 0 0) rfl).setBox 0 1 (.slice none 0 0) rfl) 0 rfl (z:=.int .i64 1) Tryz.results71 rfl rfl rfl ⟨⟨_,rfl,_,_,0,0,rfl,OwnS.nil_ _ _ _,OwnS.nil_ _ _ _⟩,(((H.out.drewN _).setBox 0 0 (.slice none 0 0) rfl).setBox 0 1 (.slice none 0 0) rfl).base⟩
    ·obtain rfl:j=na:=by omega
     have HOK:=Hd (show SpOk s o a from⟨by have:=HSL.out;have:=HLa.out;omega,fun k x y hx hy=>HA.out k (by have:=(List.getElem?_eq_some_iff.1 hx).1;have:=HLa.out;omega) x y hx hy⟩);have hno4:no≤4:=by have:=(Sh.right_iff.1 HR2.out).1;have:=HLo.out;omega
     have hj4:j≤4:=by have:=(right_len HRT.out).1;have:=HSL.out;omega
     clear HA hlt;replace H:=Hd (H.out.drewN q);generalize w2.drewN q=w3 at *
     go_wp2_with fail
     refine(refFill_any 0 (H.out.oldInts 4 rfl) (by omega) ⟨by omega,by omega⟩).mono ?_;rintro e4 w4 ⟨⟨u,rfl,hu⟩,hb4⟩;obtain⟨S1,ns,sc,D1,N,dc,rfl,hs1,hd1,hsc,hdc,hNle,h5⟩:=H.out.addTen hb4 hu;rw[List.length_replicate] at hd1;rw[hd1] at h5;obtain⟨tgt,htg⟩:∃ t,spD s d o a=t:=⟨_,rfl⟩;have HTL:=Hd (show tgt.length=N by rw[← htg,spD,gen_length,hd1]);have HAT:=Hd (show ∀ i:Nat,i<N→tgt[i]? = some (num s d (spP (Sh.placeOf o i) a)) from fun i hi=>by rw[← htg,spD];exact gen_at (by omega));have HSZ:=Hd (show ∀ i:Nat,i<N→(i:Int)<Sh.size o from fun i hi=>by have:=Sh.size_bd o;omega);have HQ:=Hd ((spR_ok HRO.out HOK.out).trans (by rw[htg]));clear htg;have h6:=h5.allocBox w4.heap.size 71 [.slice S1 ns sc,.slice D1 N dc] rfl;clear hu hb4 h5 hd1 hs1
     go_upto_region 12 with fail
     generalize w4.alloc (.cells #[.slice S1 ns sc,.slice D1 N dc] 71)=w5 at *;generalize w4.heap.size=gt at *;replace H:=Hd h6;clear h6;obtain ⟨o0,o1⟩:=H.out.z2 0 rfl
     go_wp2_with fail
     clear o0 o1
     go_loopw [87] (fun kv wr=>∃ i:Nat,kv=.int .i64 i∧i≤N∧Sep w wr [.box gt 71 [.slice S1 ns sc,.slice D1 N dc],.own 3 (.slice S1 ns sc) ns o,.own 2 (.slice D1 N dc) N (mix tgt (List.replicate N 0) i),.box (w.heap.size+1) 71 [.slice none 0 0,.slice none 0 0],.box w.heap.size 71 [.slice A j c,.slice B m e],.ints A j s,.ints B m d,.ints Ao no o,.ints Aa j a]) (fun kv _=>N - (intOf kv).toNat)
     case atStart=>exact⟨0,rfl,by omega,by rw[mix_zero];exact H.out⟩
     case round =>
      clear H;obtain⟨i,rfl,hi,hS⟩:=hrel;have H:=Hd hS;clear hS;by_cases hli:i<N
      ·have hiz:=HSZ.out i hli
       go_wp2_with fail
       refine(refPlace_own i (H.out.oldInts 7 rfl) ⟨by omega,by omega⟩).mono ?_;rintro e6 w6 ⟨⟨v,n6,rfl,hO⟩,hb6⟩;obtain⟨A6,c6,rfl,hc6,_,_⟩:=hO.form;obtain⟨_,hpl,hpw,_⟩:=placeOf_of hiz;have hp6:n6=no:=by have:=hO.len;have:=HLo.out;omega
       replace H:=Hd ((H.out.addOwn hb6 hO).addNil 3);obtain⟨P,hP⟩:∃ P,Sh.placeOf o i=P:=⟨_,rfl⟩;rw[hP] at H hpl;have HP:=Hd hP;have HPL:=Hd (show P.length=no by have:=HLo.out;omega);subst hp6;clear hb6 hO hP hpl hpw hc6
       go_wp2_with fail
       go_loopw [95,12] (fun kv vf wr=>∃ k:Nat,kv=.int .i64 k∧k≤j∧Sep w wr [.own 3 vf k ((spP P a).take k),.own 3 (.slice A6 n6 c6) n6 P,.box gt 71 [.slice S1 ns sc,.slice D1 N dc],.own 3 (.slice S1 ns sc) ns o,.own 2 (.slice D1 N dc) N (mix tgt (List.replicate N 0) i),.box (w.heap.size+1) 71 [.slice none 0 0,.slice none 0 0],.box w.heap.size 71 [.slice A j c,.slice B m e],.ints A j s,.ints B m d,.ints Ao n6 o,.ints Aa j a]) (fun kv _ _=>j-(intOf kv).toNat)
       case atStart=>exact⟨0,rfl,by omega,H.out⟩
       case round =>
        clear H;obtain⟨k,rfl,hk,hS⟩:=hrel;by_cases hlk:k<j
        ·obtain⟨aa,x,haA,_,hx,hcx,hfx⟩:=(hS.oldInts 10 rfl).at_ (k:=k) hlk;subst haA;have hxi:=sp_in HOK.out hx;obtain⟨xn,rfl⟩:=Int.eq_ofNat_of_zero_le hxi.1;have hxn:xn<n6:=by have:=HLo.out;omega
         obtain⟨pa,y,hpA,_,hy,hcy,hfy⟩:=((hS.ownInts 1 rfl).2.2).at_ (k:=xn) hxn;subst hpA;have HTK:=Hd (spP_take hx hy);have HF:=Hd hfy;have H:=Hd hS;clear hS hx hy hxi hfx hfy
         go_wp2_with (at_builtin;refine wpList_append_sep rfl (.tmp 98) (.tmp 106) 22 3 rfl Tryz.underlying22 Tryz.infoInt H.out 0 rfl rfl y HF.out _ rfl ?c1 ?_)
         case c1=>omega
         intro v' w' h';have H8:=Hd h';clear h' hcx hcy;go_wp2;go_roundw
         case rel=>exact⟨k+1,by go_num,by omega,by rw[← HTK.out];exact H8.out⟩
         case measure=>simp[intOf];omega
        ·have hkn:j=k:=by omega
         subst hkn;rw[show(spP P a).take j=spP P a from List.take_of_length_le (by rw[spP_length];have:=HLa.out;omega)] at hS;obtain⟨Af,cf,hvf,hcf,_,_⟩:=(hS.ownS 0 rfl).form;subst hvf;obtain⟨gb,cb,hv,hO⟩:=(hS.ownS 4 rfl).own (by omega);injection hv with hv1 _ hv3
         subst hv1;subst hv3;have H:=Hd hS;obtain ⟨o0,o1⟩:=H.out.z2 2 rfl;obtain ⟨t0,t1⟩:=H.out.z2 6 rfl;have hwi:=sp_within HOK.out hiz;rw[HP.out] at hwi;obtain⟨X,hX⟩:∃ X,num s d (spP P a)=X:=⟨_,rfl⟩;have hfX:Fits X:=by rw[← hX];exact num_fits HFD.out
         have C1:=ref4Number_any (w:=wr.drew) (c:=cf) (ten_mk (H.out.oldInts 7 rfl) hnc (H.out.oldInts 8 rfl) hme) (H.out.ownInts 0 rfl).2.2 HRT.out hwi.1 hwi.2;rw[hX] at C1;have HTX:=Hd (show tgt[i]? = some X by rw[HAT.out i hli,HP.out,hX]);clear hS hO hwi hX o0;have HM:=Hd (mix_rep (c:=0) HTL.out hli);have HFX:=Hd hfX;clear hfX
         go_upto_region 22 with fail
         go_region_held3 (fun w' => w'.cell? ⟨gt,1,none⟩=some (.slice (some ⟨gb,0,none⟩) N dc)∧w'.cell? ⟨w.heap.size,0,none⟩=some (.slice A j c)∧w'.cell? ⟨w.heap.size,1,none⟩=some (.slice B m e)) (go_keep)
          (first|(go_at_call 97;refine C1.mono ?_;rintro e7 w7 ⟨rfl,hb7⟩;have H7:=Hd (H.out.drew.below hb7);have m0:=H7.out.cell 2 1 rfl rfl;obtain ⟨m1,m2⟩:=H7.out.z2 6 rfl;have hcs:=(H7.out.own 4 rfl).cell HM.out;have hfs:=(H7.out.own 4 rfl).frozen i;have HS7:=Hd (H7.out.store 4 i HFX.out rfl);have k0:(w7.setCell ⟨gb,i,none⟩ (.int .i64 X)).cell? ⟨gt,1,none⟩=some (.slice (some ⟨gb,0,none⟩) N dc):=HS7.out.cell 2 1 rfl rfl;have k1:(w7.setCell ⟨gb,i,none⟩ (.int .i64 X)).cell? ⟨w.heap.size,0,none⟩=some (.slice A j c):=HS7.out.cell 6 0 rfl rfl;have k2:(w7.setCell ⟨gb,i,none⟩ (.int .i64 X)).cell? ⟨w.heap.size,1,none⟩=some (.slice B m e):=HS7.out.cell 6 1 rfl rfl))
         clear o1 t0 t1 m0 m1 m2 k0 k1 k2 hcs hfs;go_wp2;go_roundw
         case rel=>exact⟨i+1,by go_num,by omega,by rw[← mix_step HTL.out HTX.out];exact HS7.out.sub [2,3,4,5,6,7,8,9,10] rfl (by decide)⟩
         case measure=>simp[intOf];omega
      ·have hin:N=i:=by omega
       subst hin;rw[mix_end HTL.out] at H;obtain ⟨o0,o1⟩:=H.out.z2 0 rfl;obtain ⟨r0,r1⟩:=H.out.z2 3 rfl;obtain ⟨fr0,fr1⟩:=H.out.f2 3 rfl;go_wp2;rw[HQ.out];exact sep_ret2 ((H.out.setBox 3 0 (.slice S1 ns sc) rfl).setBox 3 1 (.slice D1 N dc) rfl) 3 rfl (z:=.int .i64 0) Tryz.results71 rfl rfl rfl ⟨⟨_,rfl,_,_,ns,N,rfl,((H.out.setBox 3 0 (.slice S1 ns sc) rfl).setBox 3 1 (.slice D1 N dc) rfl).ownS 1 rfl,((H.out.setBox 3 0 (.slice S1 ns sc) rfl).setBox 3 1 (.slice D1 N dc) rfl).ownS 2 rfl⟩,((H.out.setBox 3 0 (.slice S1 ns sc) rfl).setBox 3 1 (.slice D1 N dc) rfl).base⟩
theorem ref4Turn_any {w:World} {v:Value} {Aa:Option Addr} {na ca:Nat} {s d a:List Int} (h:Ten w v s d) (hA:Ints w Aa na a) :
  Calls Tryz.prog 70 #[v,.slice Aa na ca] w fun e w' => (∃ u,e=.returned (.tuple #[u,.int .i64 (turnR s d a).1])∧OTen w' w.heap.size u (turnR s d a).2.1 (turnR s d a).2.2)∧Below w.heap.size w w' := by
 obtain⟨A,n,c,B,m,e,rfl,hnc,hme,hI,hJ⟩:=h;have h1:=(((((Sep.nil w).old hA).old hJ).old hI).allocBox w.heap.size 71 [.slice A n c,.slice B m e] rfl).allocBox (w.heap.size+1) 71 [.slice none 0 0,.slice none 0 0] (by simp);have hsl:=hI.len;have hnle:=hI.le;have hmle:=hJ.le;have HFD:=Hd hJ.fit;have HDL:=Hd hJ.len;have hla:=hA.len;have hlea:=hA.le
 go_enter Tryz.func70,Tryz.ntmps70
 go_upto_region 1 with fail
 generalize (w.alloc (.cells #[.slice A n c,.slice B m e] 71)).alloc (.cells #[.slice none 0 0,.slice none 0 0] 71)=W at *;have H:=Hd h1;clear h1 hI hJ hA;have HSL:=Hd hsl;clear hsl;have HLa:=Hd hla;clear hla;have hT:=ten_mk (H.out.oldInts 2 rfl) hnc (H.out.oldInts 3 rfl) hme;have C1:=refTensor_any hT;have HT:=Hd hT;clear hT;obtain ⟨t0,t1⟩:=H.out.z2 1 rfl
 go_wp2_with fail
 cases hr:tenRight s d with
 | false =>
  rw[hr] at C1;refine C1.mono ?_;rintro e2 w2 ⟨rfl,hb2⟩;replace H:=Hd (H.out.below hb2);have HX:=Hd (turnR_shape (a:=a) hr);obtain ⟨r0,r1⟩:=H.out.z2 0 rfl;obtain ⟨fr0,fr1⟩:=H.out.f2 0 rfl;clear hb2 hr C1 t0 t1;go_wp2;rw[HX.out]
  exact sep_ret2 ((H.out.setBox 0 0 (.slice none 0 0) rfl).setBox 0 1 (.slice none 0 0) rfl) 0 rfl (z:=.int .i64 13) Tryz.results70 rfl rfl rfl ⟨⟨_,rfl,_,_,0,0,rfl,OwnS.nil_ _ _ _,OwnS.nil_ _ _ _⟩,((H.out.setBox 0 0 (.slice none 0 0) rfl).setBox 0 1 (.slice none 0 0) rfl).base⟩
 | true =>
  rw[hr] at C1;refine C1.mono ?_;rintro e2 w2 ⟨rfl,hb2⟩;replace H:=Hd (H.out.below hb2);have HRT:=Hd hr;clear hb2 hr C1 t0 t1 HT;have hn4:n≤4:=by have:=(right_len HRT.out).1;have:=HSL.out;omega
  have hm:=run_make_noughts Tryz.underlying22 Tryz.infoInt (n:=n) (by omega);have h3:=H.out.noughts 3 n (by omega);obtain ⟨t0,t1⟩:=H.out.z2 1 rfl
  go_upto_region 4 with fail
  generalize w2.alloc (.cells (noughts n) 3)=w3 at *;generalize w2.heap.size=gi at *;replace H:=Hd h3;clear h3 hm t0 t1;by_cases hlen:na=n;rotate_left
  ·have HX:=Hd (turnR_arg (a:=a) HRT.out (fun hc=>absurd hc.1 (by have:=HSL.out;have:=HLa.out;omega)));have hg:((na:Int) != (n:Int))=true:=by simp;omega
   clear hlen;obtain ⟨r0,r1⟩:=H.out.z2 1 rfl;obtain ⟨fr0,fr1⟩:=H.out.f2 1 rfl;go_wp2;rw[HX.out];exact sep_ret2 ((H.out.setBox 1 0 (.slice none 0 0) rfl).setBox 1 1 (.slice none 0 0) rfl) 1 rfl (z:=.int .i64 1) Tryz.results70 rfl rfl rfl ⟨⟨_,rfl,_,_,0,0,rfl,OwnS.nil_ _ _ _,OwnS.nil_ _ _ _⟩,((H.out.setBox 1 0 (.slice none 0 0) rfl).setBox 1 1 (.slice none 0 0) rfl).base⟩
  obtain rfl:na=n:=hlen;replace H:=Hd (H.out.addNil 3)
  go_wp2_with fail
  go_loopw [30,7] (fun kv vs wr=>∃ j:Nat,kv=.int .i64 j∧j≤na∧(∀ k,k<j→TuAt s a k)∧Sep w wr [.own 3 vs j ((turnS s a).take j),.own 3 (.slice (some ⟨gi,0,none⟩) na na) na (marks na (a.take j)),.box (w.heap.size+1) 71 [.slice none 0 0,.slice none 0 0],.box w.heap.size 71 [.slice A na c,.slice B m e],.ints A na s,.ints B m d,.ints Aa na a]) (fun kv _ _=>na-(intOf kv).toNat)
  case atStart=>exact⟨0,rfl,by omega,fun k hk=>by omega,by rw[List.take_zero,List.take_zero,marks_nil];exact H.out⟩
  case round =>
   clear H;obtain⟨j,rfl,hj,hall,hS⟩:=hrel;have HA:=Hd hall;clear hall;by_cases hlt:j<na
   ·obtain⟨aa,x,haA,_,hx,hcx,hfx⟩:=(hS.oldInts 6 rfl).at_ (k:=j) hlt;subst haA;have HE:=Hd hx;clear hx;have H:=Hd hS;clear hS;have HBAD:=Hd (fun (hbad:¬ (0≤x∧x<na∧x∉a.take j))=>turnR_arg (d:=d) HRT.out (fun hc=>hbad (by have:=hc.2 j x HE.out;rwa [HSL.out] at this)));obtain⟨hfx1,hfx2⟩:=hfx;by_cases g1:x<0
    ·have d1:decide (x<0)=true:=by simpa using g1
     have HX:=Hd (HBAD.out (by omega));obtain ⟨r0,r1⟩:=H.out.z2 2 rfl;obtain ⟨fr0,fr1⟩:=H.out.f2 2 rfl;go_wp2;rw[HX.out];exact sep_ret2 ((H.out.setBox 2 0 (.slice none 0 0) rfl).setBox 2 1 (.slice none 0 0) rfl) 2 rfl (z:=.int .i64 1) Tryz.results70 rfl rfl rfl ⟨⟨_,rfl,_,_,0,0,rfl,OwnS.nil_ _ _ _,OwnS.nil_ _ _ _⟩,((H.out.setBox 2 0 (.slice none 0 0) rfl).setBox 2 1 (.slice none 0 0) rfl).base⟩
    by_cases g2:(na:Int)≤x
    ·have d2:decide ((na:Int)≤x)=true:=by simpa using g2
     have HX:=Hd (HBAD.out (by omega));obtain ⟨r0,r1⟩:=H.out.z2 2 rfl;obtain ⟨fr0,fr1⟩:=H.out.f2 2 rfl;go_wp2;rw[HX.out];exact sep_ret2 ((H.out.setBox 2 0 (.slice none 0 0) rfl).setBox 2 1 (.slice none 0 0) rfl) 2 rfl (z:=.int .i64 1) Tryz.results70 rfl rfl rfl ⟨⟨_,rfl,_,_,0,0,rfl,OwnS.nil_ _ _ _,OwnS.nil_ _ _ _⟩,((H.out.setBox 2 0 (.slice none 0 0) rfl).setBox 2 1 (.slice none 0 0) rfl).base⟩
    obtain⟨xn,rfl⟩:=Int.eq_ofNat_of_zero_le (by omega:0≤x);have hxn:xn<na:=by omega
    have e2:decide (na≤xn)=false:=by simp;omega
    have hmk:=marks_at (n:=na) (l:=a.take j) (x:=(xn:Int)) (by omega) (by omega);rw[Int.toNat_natCast] at hmk;have hci:=(H.out.own 1 rfl).cell hmk;have hfi:=(H.out.own 1 rfl).frozen xn;clear hmk;by_cases g3:(xn:Int)∈a.take j
    ·rw[if_pos g3] at hci;have HX:=Hd (HBAD.out (fun hh=>hh.2.2 g3));obtain ⟨r0,r1⟩:=H.out.z2 2 rfl;obtain ⟨fr0,fr1⟩:=H.out.f2 2 rfl;go_wp2;rw[HX.out];exact sep_ret2 ((H.out.setBox 2 0 (.slice none 0 0) rfl).setBox 2 1 (.slice none 0 0) rfl) 2 rfl (z:=.int .i64 1) Tryz.results70 rfl rfl rfl ⟨⟨_,rfl,_,_,0,0,rfl,OwnS.nil_ _ _ _,OwnS.nil_ _ _ _⟩,((H.out.setBox 2 0 (.slice none 0 0) rfl).setBox 2 1 (.slice none 0 0) rfl).base⟩
    rw[if_neg g3] at hci;have HG3:=Hd g3;clear g3 HBAD;obtain⟨sa,y,hsA,_,hy,hcy,hfy⟩:=(H.out.oldInts 4 rfl).at_ (k:=xn) hxn;subst hsA;have HY:=Hd hy;have HF:=Hd hfy;clear hy hfy;have hS2:=H.out.store 1 xn (x:=1) ⟨by omega,by omega⟩ rfl;have hms:=marks_set (n:=na) (l:=a.take j) (x:=(xn:Int)) (by omega) (by omega);rw[Int.toNat_natCast] at hms;rw[hms] at hS2;have hS3:=hS2;clear hS2 hms
    go_upto_region 13 with fail
    generalize wr.setCell ⟨gi,xn,none⟩ (.int .i64 1)=w8 at *;have H8:=Hd hS3.drew;have t0:=hS3.cell 3 0 rfl rfl;have hcx8:=(hS3.oldInts 6 rfl).get HE.out;have hcy8:=(hS3.oldInts 4 rfl).get HY.out;clear hS3 hci hfi hcx hcy
    go_region_law (refine step_append_sep rfl (.tmp 67) (.tmp 76) 22 3 rfl Tryz.underlying22 Tryz.infoInt H8.out 0 rfl rfl y HF.out _ rfl ?_ ?_;(focus omega);intro v' w' h';have H9:=Hd h';clear h')
    all_goals (
     clear t0 hcx8 hcy8;go_wp2;go_roundw
     case rel=>exact⟨j+1,by go_num,by omega,fun k hk=>by
      rcases Nat.lt_or_ge k j with h' | h'
      ·exact HA.out k h'
      ·obtain rfl:k=j:=by omega
       intro x hx;rw[HE.out] at hx;injection hx with hx;subst hx
       exact⟨by omega,by rw[HSL.out];omega,HG3.out⟩,
      by rw[← turnS_take HE.out (by rw[Int.toNat_natCast];exact HY.out),List.take_add_one,HE.out];exact H9.out⟩
     case measure=>simp[intOf];omega)
   ·have hjn:na=j:=by omega
    subst hjn;rw[show(turnS s a).take na=turnS s a from List.take_of_length_le (by rw[turnS_length];have:=HLa.out;omega)] at hS;have HOK:=Hd (show TuOk s a from⟨by have:=HSL.out;have:=HLa.out;omega,fun k x hx=>HA.out k (by have:=(List.getElem?_eq_some_iff.1 hx).1;have:=HLa.out;omega) x hx⟩);obtain⟨At,ct,hvt,hct,_,_⟩:=(hS.ownS 0 rfl).form;subst hvt;have H:=Hd hS;clear hS HA hlt
    go_wp2_with fail
    refine(refFill_any 0 ((H.out.ownInts 0 rfl).2.2) (by omega) ⟨by omega,by omega⟩).mono ?_;rintro e4 w4 ⟨⟨u,rfl,hu⟩,hb4⟩;obtain⟨S1,ns,sc,D1,N,dc,rfl,hs1,hd1,hsc,hdc,hNle,h5⟩:=H.out.addTen hb4 hu;rw[List.length_replicate] at hd1;rw[hd1] at h5;obtain⟨tgt,htg⟩:∃ t,turnD s d a=t:=⟨_,rfl⟩;have HTL:=Hd (show tgt.length=N by rw[← htg,turnD,gen_length,hd1]);have HAT:=Hd (show ∀ i:Nat,i<N→tgt[i]? = some (num s d (turnP s.length a (Sh.placeOf (turnS s a) i))) from fun i hi=>by rw[← htg,turnD];exact gen_at (by omega));have HSZ:=Hd (show ∀ i:Nat,i<N→(i:Int)<Sh.size (turnS s a) from fun i hi=>by have:=Sh.size_bd (turnS s a);omega);have HQ:=Hd ((turnR_ok HRT.out HOK.out).trans (by rw[htg]));clear htg;have h6:=h5.allocBox w4.heap.size 71 [.slice S1 ns sc,.slice D1 N dc] rfl;clear hu hb4 h5 hd1 hs1
    go_upto_region 16 with fail
    generalize w4.alloc (.cells #[.slice S1 ns sc,.slice D1 N dc] 71)=w5 at *;generalize w4.heap.size=gt at *;replace H:=Hd h6;clear h6;obtain ⟨o0,o1⟩:=H.out.z2 0 rfl
    go_wp2_with fail
    clear o0 o1
    go_loopw [84] (fun kv wr=>∃ i:Nat,kv=.int .i64 i∧i≤N∧Sep w wr [.box gt 71 [.slice S1 ns sc,.slice D1 N dc],.own 3 (.slice S1 ns sc) ns (turnS s a),.own 2 (.slice D1 N dc) N (mix tgt (List.replicate N 0) i),.own 3 (.slice At na ct) na (turnS s a),.own 3 (.slice (some ⟨gi,0,none⟩) na na) na (marks na (a.take na)),.box (w.heap.size+1) 71 [.slice none 0 0,.slice none 0 0],.box w.heap.size 71 [.slice A na c,.slice B m e],.ints A na s,.ints B m d,.ints Aa na a]) (fun kv _=>N - (intOf kv).toNat)
    case atStart=>exact⟨0,rfl,by omega,by rw[mix_zero];exact H.out⟩
    case round =>
     clear H;obtain⟨i,rfl,hi,hS⟩:=hrel;have H:=Hd hS;clear hS;by_cases hli:i<N
     ·have hiz:=HSZ.out i hli
      go_wp2_with fail
      refine(refPlace_own i ((H.out.ownInts 3 rfl).2.2) ⟨by omega,by omega⟩).mono ?_;rintro e6 w6 ⟨⟨v,n6,rfl,hO⟩,hb6⟩;obtain⟨A6,c6,rfl,hc6,_,_⟩:=hO.form;obtain⟨_,hpl,hpw,_⟩:=placeOf_of hiz;have hp6:na=n6:=by have:=hO.len;have:=HLa.out;rw[turnS_length] at hpl;omega
      replace H:=Hd (H.out.addOwn hb6 hO);obtain⟨P,hP⟩:∃ P,Sh.placeOf (turnS s a) i=P:=⟨_,rfl⟩;rw[hP] at H hpl;have HP:=Hd hP;have HPL:=Hd (show P.length=na by have:=HLa.out;rw[turnS_length] at hpl;omega);subst hp6;clear hb6 hO hP hpl hpw hc6;have hm:=run_make_noughts Tryz.underlying22 Tryz.infoInt (n:=na) (by omega);have h3:=H.out.noughts 3 na (by omega)
      go_upto_region 21 with fail
      generalize w6.alloc (.cells (noughts na) 3)=w7 at *;generalize w6.heap.size=gf at *;replace H:=Hd h3;clear h3 hm
      go_wp2_with fail
      go_loopw [95] (fun kv wr=>∃ k:Nat,kv=.int .i64 k∧k≤na∧Sep w wr [.own 3 (.slice (some ⟨gf,0,none⟩) na na) na (setAll (List.replicate na 0) a P k),.own 3 (.slice A6 na c6) na P,.box gt 71 [.slice S1 ns sc,.slice D1 N dc],.own 3 (.slice S1 ns sc) ns (turnS s a),.own 2 (.slice D1 N dc) N (mix tgt (List.replicate N 0) i),.own 3 (.slice At na ct) na (turnS s a),.own 3 (.slice (some ⟨gi,0,none⟩) na na) na (marks na (a.take na)),.box (w.heap.size+1) 71 [.slice none 0 0,.slice none 0 0],.box w.heap.size 71 [.slice A na c,.slice B m e],.ints A na s,.ints B m d,.ints Aa na a]) (fun kv _=>na-(intOf kv).toNat)
      case atStart=>exact⟨0,rfl,by omega,H.out⟩
      case round =>
       clear H;obtain⟨k,rfl,hk,hS⟩:=hrel;by_cases hlk:k<na
       ·obtain⟨aa,x,haA,_,hx,hcx,hfx⟩:=(hS.oldInts 11 rfl).at_ (k:=k) hlk;subst haA;have hxi:=tu_in HOK.out hx;obtain⟨xn,rfl⟩:=Int.eq_ofNat_of_zero_le hxi.1;have hxn:xn<na:=by have:=HSL.out;omega
        obtain⟨pa,y,hpA,_,hy,hcy,hfy⟩:=((hS.ownInts 1 rfl).2.2).at_ (k:=k) hlk;subst hpA;obtain⟨z,hz⟩:=getElem_of (l:=setAll (List.replicate na 0) a P k) (k:=xn) (by rw[setAll_length,List.length_replicate];exact hxn);have hcz:=(hS.own 0 rfl).cell hz;have hfz:=(hS.own 0 rfl).frozen xn;have hS2:=hS.store 0 xn hfy rfl;have hss:=setAll_step (f:=List.replicate na 0) hx hy;rw[Int.toNat_natCast] at hss;rw[hss] at hS2;have HS2:=Hd hS2;clear hS hS2 hss hz hx hy hxi hfx hfy
        go_upto_region 24 with fail
        go_still_tail 10,(by kernel_rfl)
        change wpList _ _ _ _ _ wr.drew;have hcz1:wr.drew.cell? ⟨gf,xn,none⟩=some (.int .i64 z):=hcz;have hfz1:wr.drew.frozen? ⟨gf,xn,none⟩=false:=hfz;go_wp2;go_roundw
        case rel=>exact⟨k+1,by go_num,by omega,HS2.out.drew⟩
        case measure=>simp[intOf];omega
       ·have hkn:na=k:=by omega
        subst hkn;rw[show setAll (List.replicate na 0) a P na=turnP s.length a P by rw[turnP,HSL.out,HLa.out]] at hS;obtain⟨gb,cb,hv,hO⟩:=(hS.ownS 4 rfl).own (by omega);injection hv with hv1 _ hv3
        subst hv1;subst hv3;have H:=Hd hS;obtain ⟨o0,o1⟩:=H.out.z2 2 rfl;obtain ⟨t0,t1⟩:=H.out.z2 8 rfl;have hwi:=turn_within HOK.out hiz;rw[HP.out] at hwi;obtain⟨X,hX⟩:∃ X,num s d (turnP s.length a P)=X:=⟨_,rfl⟩;have hfX:Fits X:=by rw[← hX];exact num_fits HFD.out
        have C1:=ref4Number_any (w:=wr.drew) (c:=na) (ten_mk (H.out.oldInts 9 rfl) hnc (H.out.oldInts 10 rfl) hme) (H.out.ownInts 0 rfl).2.2 HRT.out hwi.1 hwi.2;rw[hX] at C1;have HTX:=Hd (show tgt[i]? = some X by rw[HAT.out i hli,HP.out,hX]);clear hS hO hwi hX o0;have HM:=Hd (mix_rep (c:=0) HTL.out hli);have HFX:=Hd hfX;clear hfX
        go_upto_region 26 with fail
        go_region_held3 (fun w' => w'.cell? ⟨gt,1,none⟩=some (.slice (some ⟨gb,0,none⟩) N dc)∧w'.cell? ⟨w.heap.size,0,none⟩=some (.slice A na c)∧w'.cell? ⟨w.heap.size,1,none⟩=some (.slice B m e)) (go_keep)
         (first|(go_at_call 97;refine C1.mono ?_;rintro e7 w7 ⟨rfl,hb7⟩;have H7:=Hd (H.out.drew.below hb7);have m0:=H7.out.cell 2 1 rfl rfl;obtain ⟨m1,m2⟩:=H7.out.z2 8 rfl;have hcs:=(H7.out.own 4 rfl).cell HM.out;have hfs:=(H7.out.own 4 rfl).frozen i;have HS7:=Hd (H7.out.store 4 i HFX.out rfl);have k0:(w7.setCell ⟨gb,i,none⟩ (.int .i64 X)).cell? ⟨gt,1,none⟩=some (.slice (some ⟨gb,0,none⟩) N dc):=HS7.out.cell 2 1 rfl rfl;have k1:(w7.setCell ⟨gb,i,none⟩ (.int .i64 X)).cell? ⟨w.heap.size,0,none⟩=some (.slice A na c):=HS7.out.cell 8 0 rfl rfl;have k2:(w7.setCell ⟨gb,i,none⟩ (.int .i64 X)).cell? ⟨w.heap.size,1,none⟩=some (.slice B m e):=HS7.out.cell 8 1 rfl rfl))
        clear o1 t0 t1 m0 m1 m2 k0 k1 k2 hcs hfs;go_wp2;go_roundw
        case rel=>exact⟨i+1,by go_num,by omega,by rw[← mix_step HTL.out HTX.out];exact HS7.out.sub [2,3,4,5,6,7,8,9,10,11] rfl (by decide)⟩
        case measure=>simp[intOf];omega
     ·have hin:N=i:=by omega
      subst hin;rw[mix_end HTL.out] at H;obtain ⟨o0,o1⟩:=H.out.z2 0 rfl;obtain ⟨r0,r1⟩:=H.out.z2 5 rfl;obtain ⟨fr0,fr1⟩:=H.out.f2 5 rfl;go_wp2;rw[HQ.out];exact sep_ret2 ((H.out.setBox 5 0 (.slice S1 ns sc) rfl).setBox 5 1 (.slice D1 N dc) rfl) 5 rfl (z:=.int .i64 0) Tryz.results70 rfl rfl rfl ⟨⟨_,rfl,_,_,ns,N,rfl,((H.out.setBox 5 0 (.slice S1 ns sc) rfl).setBox 5 1 (.slice D1 N dc) rfl).ownS 1 rfl,((H.out.setBox 5 0 (.slice S1 ns sc) rfl).setBox 5 1 (.slice D1 N dc) rfl).ownS 2 rfl⟩,((H.out.setBox 5 0 (.slice S1 ns sc) rfl).setBox 5 1 (.slice D1 N dc) rfl).base⟩
end Go.Proofs.YtnnmplkgenhofaaGreat
