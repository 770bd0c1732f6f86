import Derived.Test.YtjblengklgkgfaaGreatPaj
set_option maxRecDepth 100000
set_option maxHeartbeats 12800000
namespace Go.Proofs.YtjblengklgkgfaaGreat
open Go.RowKit Go.Proofs.Tryz
variable {Aa:Option Addr} {a d s:List Int} {ca na:Nat} {v:Value} {w:World}
theorem c0r {Ao:Option Addr}{no co:Nat}{o:List Int}(h:Ten w v s d)(hO:Ints w Ao no o)(hA:Ints w Aa na a):
  Calls prog 79 #[v,.slice Ao no co,.slice Aa na ca] w fun e w'=>(∃ u,e=.returned (.tuple #[u,.int .i64 (spR s d o a).1])∧OTen w' w.heap.size u (spR s d o a).2.1 (spR s d o a).2.2)∧Below w.heap.size w w':=by
 obtain⟨A,n,c,B,m,e,rfl,hnc,hme,hI,hJ⟩:=h;have h1:=((((((Sep.nil w).old hA).old hO).old hJ).old hI).allocBox w.heap.size 33 [.slice A n c,.slice B m e] rfl).allocBox (w.heap.size+1) 33 [.slice none 0 0,.slice none 0 0] (by simp);have hsl:=hI.len;have hnle:=hI.le;have hmle:=hJ.le;have HFD:=Hd hJ.fit;have HDL:=Hd hJ.len;have hlo:=hO.len;have hleo:=hO.le;have hla:=hA.len;have hlea:=hA.le
 go_enter func79,ntmps79
 go_upto_region 1 with fail
 generalize (w.alloc (.cells #[.slice A n c,.slice B m e] 33)).alloc (.cells #[.slice none 0 0,.slice none 0 0] 33)=W at *;have H:=Hd h1;clear h1 hI hJ hO hA;have HSL:=Hd hsl;clear hsl;have HLo:=Hd hlo;clear hlo;have HLa:=Hd hla;clear hla;have hT:=a1s (H.oldInts 2 rfl) hnc (H.oldInts 3 rfl) hme;have C1:=a2a hT;have HT:=Hd hT;clear hT;obtain⟨t0,t1⟩:=H.z2 1 rfl
 go_wp2_with fail
 cases hr:a0a s d with
 | false =>
  rw[hr] at C1;refine C1.mono ?_;rintro e2 w2 ⟨rfl,hb2⟩;replace H:=Hd (H.below hb2);have HX:=Hd (b0v (s:=s) (d:=d) (o:=o) (a:=a) (by rw[hr];rfl));obtain⟨r0,r1,fr0,fr1⟩:=H.b2 0;clear hb2 hr C1 t0 t1;go_wp2;rw[HX.out]
  exact sN2 H 0 13 results79
 | true =>
  rw[hr] at C1;refine C1.mono ?_;rintro e2 w2 ⟨rfl,hb2⟩;replace H:=Hd (H.below hb2);have HRT:=Hd hr;clear hb2 hr C1 t0 t1 HT;have C2:=a1c (c:=co) (H.oldInts 4 rfl)
  go_wp2_with fail
  cases ho:Sh.right o with
  | false =>
   rw[ho] at C2;refine C2.mono ?_;rintro e3 w3 ⟨rfl,rfl⟩;have HX:=Hd (b0v (s:=s) (d:=d) (o:=o) (a:=a) (by rw[HRT.out,ho];rfl));obtain⟨r0,r1,fr0,fr1⟩:=H.b2 0;clear ho C2;go_wp2;rw[HX.out]
   exact sN2 H 0 13 results79
  | true =>
   rw[ho] at C2;refine C2.mono ?_;rintro e3 w3 ⟨rfl,rfl⟩;have HRO:=Hd (show(a0a s d&&Sh.right o)=true by rw[HRT.out,ho];rfl);have HR2:=Hd ho;clear ho C2;obtain⟨t0,t1⟩:=H.z2 1 rfl;by_cases hlen:na=n;rotate_left
   ·have HX:=Hd (b7n (a:=a) HRO (fun hc=>absurd hc.1 (by have:=HSL.out;have:=HLa.out;omega)));have hg:((na:Int) != (n:Int))=true:=by simp;omega
    clear hlen;obtain⟨r0,r1,fr0,fr1⟩:=H.b2 0;go_wp2;rw[HX.out];exact sN2 H 0 1 results79
   obtain rfl:na=n:=hlen
   go_wp2_with fail
   go_loopw [32] (fun kv wr=>∃ j:Nat,kv=.int .i64 j∧j≤na∧(∀ k,k<j→SpAt s o a k)∧∃ q,wr=w2.drewN q) (fun kv _=>na-(intOf kv).toNat)
   case atStart=>exact⟨0,rfl,by omega,fun k hk=>by omega,0,rfl⟩
   case round =>
    obtain⟨j,rfl,hj,hall,q,rfl⟩:=hrel;have HA:=Hd hall;clear hall;by_cases hlt:j<na
    ·obtain⟨sa,y,hsA,_,hy,hcy,hfy⟩:=(H.oldInts 2 rfl).at_ (k:=j) hlt;obtain⟨aa,x,haA,_,hx,hcx,hfx⟩:=(H.oldInts 5 rfl).at_ (k:=j) hlt;subst hsA;subst haA;have HE:=Hd (⟨hx,hy⟩:_∧_);clear hx hy;have HBAD:=Hd (fun (hbad:¬(0≤x∧x<no∧(∀ z,0<j→a[j-1]?=some z→z<x)∧o[x.toNat]?=some y))=>b7n (s:=s) (d:=d) (o:=o) (a:=a) HRO (fun hc=>hbad (by have:=hc.2 j x y HE.out.1 HE.out.2;rwa [HLo.out] at this)));obtain⟨r0,r1,fr0,fr1⟩:=H.b2 0;obtain⟨hfx1,hfx2⟩:=hfx;by_cases g1:x<0
     ·have d1:decide (x<0)=true:=by simpa using g1
      have HX:=Hd (HBAD (by omega))
      go_wp2_with fail
      go_quiet (fail)
      go_wp2;rw[HX.out];exact sN2 (H.drewN _) 0 1 results79
     have d1:decide (x<0)=false:=by simpa using g1
     by_cases g2:(no:Int)≤x
     ·have d2:decide ((no:Int)≤x)=true:=by simpa using g2
      have HX:=Hd (HBAD (by omega))
      go_wp2_with fail
      go_quiet (fail)
      go_wp2;rw[HX.out];exact sN2 (H.drewN _) 0 1 results79
     have d2:decide ((no:Int)≤x)=false:=by simpa using g2
     obtain⟨xn,rfl⟩:=eZ (by omega:0≤x);have hxn:xn<no:=by omega
     have e2:decide (no≤xn)=false:=by simp;omega
     obtain⟨oa,v,hoA,_,hv,hcv,hfv⟩:=(H.oldInts 4 rfl).at_ (k:=xn) hxn;subst hoA;have HV:=Hd hv;clear hv
     obtain⟨jp,u,hju,hau⟩:∃(jp:Nat) (u:Int),(j=0∨(j=jp+1∧a[jp]?=some u))∧(j=0∨(w2.cell? (aa.add jp)=some (.int .i64 u))):=by
      rcases Nat.eq_zero_or_pos j with hj0|hj0
      ·exact⟨0,0,.inl hj0,.inl hj0⟩
      ·obtain⟨aa2,u,haA,_,hu,hcu,_⟩:=(H.oldInts 5 rfl).at_ (k:=j-1) (by omega);injection haA with haA;subst haA
       exact⟨j-1,u,.inr ⟨by omega,hu⟩,.inr hcu⟩
     have HJ:=Hd hju;clear hju;by_cases g3:0<j∧(xn:Int)≤u
     ·obtain⟨g3,g4⟩:=g3;have hcu:w2.cell? (aa.add jp)=some (.int .i64 u):=by rcases hau with h|h;exact absurd h (by omega);exact h
      have hjp:j=jp+1∧a[jp]?=some u:=by rcases HJ with h|h;exact absurd h (by omega);exact h
      have hw:IntKind.i64.wrap ((j:Int)-1)=(jp:Int):=by rw[show(j:Int)-1=(jp:Int) by omega];exact IntWalk.i64_in _ ⟨by omega,by omega⟩
      have d3:decide (0<j)=true:=by simpa using g3
      have d4:decide ((xn:Int)≤u)=true:=by simpa using g4
      have hjl:jp<na:=by omega
      have HX:=Hd (HBAD (fun hh=>absurd (hh.2.2.1 u g3 (by rw[show j-1=jp by omega];exact hjp.2)) (by omega)));clear hau hjp g3 g4
      go_wp2_with fail
      go_quiet (fail)
      go_wp2;rw[HX.out];exact sN2 (H.drewN _) 0 1 results79
     by_cases hj0:j=0
     ·have d3:decide (0<j)=false:=by simp[hj0]
      have HJ0:=Hd hj0;clear hau hj0;by_cases g5:v=y
      ·subst g5;have d5:(v != v)=false:=by simp
       have HN:=Hd (show ∀ k,k<j+1→SpAt s o a k from fun k hk=>by
        rcases Nat.lt_or_ge k j with h' | h'
        ·exact HA k h'
        ·obtain rfl:k=j:=by omega
         intro x y hx hy;rw[HE.out.1] at hx;rw[HE.out.2] at hy;injection hx with hx;injection hy with hy;subst hx;subst hy
         exact⟨by omega,by rw[HLo.out];omega,fun z hz=>absurd HJ0.out (by omega),HV⟩)
       clear HBAD HE r0 r1 fr0 fr1
       go_wp2_with fail
       go_quiet (fail)
       go_wp2;go_roundw
       case rel=>exact⟨j+1,by go_num,by omega,HN,_,rfl⟩
       case measure=>simp[intOf];omega
      ·have d5:(v != y)=true:=by simpa using g5
       have HX:=Hd (HBAD (fun hh=>g5 (by have h3:=hh.2.2.2;rw[Int.toNat_natCast,HV.out] at h3;injection h3)))
       go_wp2_with fail
       go_quiet (fail)
       go_wp2;rw[HX.out];exact sN2 (H.drewN _) 0 1 results79
     ·have d3:decide (0<j)=true:=by simp;omega
      have hcu:w2.cell? (aa.add jp)=some (.int .i64 u):=by rcases hau with h|h;exact absurd h hj0;exact h
      have hjp:j=jp+1∧a[jp]?=some u:=by rcases HJ with h|h;exact absurd h hj0;exact h
      have hw:IntKind.i64.wrap ((j:Int)-1)=(jp:Int):=by rw[show(j:Int)-1=(jp:Int) by omega];exact IntWalk.i64_in _ ⟨by omega,by omega⟩
      have d4:decide ((xn:Int)≤u)=false:=by simp;omega
      have hjl:jp<na:=by omega
      have HJP:=Hd hjp;clear hau hjp hj0;by_cases g5:v=y
      ·subst g5;have d5:(v != v)=false:=by simp
       have HN:=Hd (show ∀ k,k<j+1→SpAt s o a k from fun k hk=>by
        rcases Nat.lt_or_ge k j with h' | h'
        ·exact HA k h'
        ·obtain rfl:k=j:=by omega
         intro x y hx hy;rw[HE.out.1] at hx;rw[HE.out.2] at hy;injection hx with hx;injection hy with hy;subst hx;subst hy
         exact⟨by omega,by rw[HLo.out];omega,fun z hz hz2=>by have:=HJP.out;rw[show k-1=jp by have:=HJP.out.1;omega,this.2] at hz2;injection hz2 with hz2;omega,HV⟩)
       clear HBAD HE r0 r1 fr0 fr1
       go_wp2_with fail
       go_quiet (fail)
       go_wp2;go_roundw
       case rel=>exact⟨j+1,by go_num,by omega,HN,_,rfl⟩
       case measure=>simp[intOf];omega
      ·have d5:(v != y)=true:=by simpa using g5
       have HX:=Hd (HBAD (fun hh=>g5 (by have h3:=hh.2.2.2;rw[Int.toNat_natCast,HV.out] at h3;injection h3)))
       go_wp2_with fail
       go_quiet (fail)
       go_wp2;rw[HX.out];exact sN2 (H.drewN _) 0 1 results79
    ·obtain rfl:j=na:=by omega
     have HOK:=Hd (show SpOk s o a from⟨by have:=HSL.out;have:=HLa.out;omega,fun k x y hx hy=>HA.out k (by have:=(lL hx);have:=HLa.out;omega) x y hx hy⟩);have hno4:no≤4:=by have:=(Sh.right_iff.1 HR2).1;have:=HLo.out;omega
     have hj4:j≤4:=by have:=(a1f HRT).1;have:=HSL.out;omega
     clear HA hlt;replace H:=Hd (H.drewN q);generalize w2.drewN q=w3 at *
     go_wp2_with fail
     refine(a2d 0 (H.oldInts 4 rfl) (by omega) ⟨by omega,by omega⟩).mono ?_;rintro e4 w4 ⟨⟨u,rfl,hu⟩,hb4⟩;obtain⟨S1,ns,sc,D1,N,dc,rfl,hs1,hd1,hsc,hdc,hNle,h5⟩:=H.addTen hb4 hu;rw[List.length_replicate] at hd1;rw[hd1] at h5;obtain⟨tgt,htg⟩:∃ t,spD s d o a=t:=⟨_,rfl⟩;have HTL:=Hd (show tgt.length=N by rw[←htg,spD,a2y,hd1]);have HAT:=Hd (show ∀ i:Nat,i<N→tgt[i]?=some (num s d (spP (Sh.placeOf o i) a)) from fun i hi=>by rw[←htg,spD];exact a7l (by omega));have HSZ:=Hd (show ∀ i:Nat,i<N→(i:Int)<Sh.size o from fun i hi=>by have:=Sh.size_bd o;omega);have HQ:=Hd ((d5q HRO HOK).trans (by rw[htg]));clear htg;have h6:=h5.allocBox w4.heap.size 33 [.slice S1 ns sc,.slice D1 N dc] rfl;clear hu hb4 h5 hd1 hs1
     go_upto_region 12 with fail
     generalize w4.alloc (.cells #[.slice S1 ns sc,.slice D1 N dc] 33)=w5 at *;generalize w4.heap.size=gt at *;replace H:=Hd h6;clear h6;obtain⟨o0,o1⟩:=H.z2 0 rfl
     go_wp2_with fail
     clear o0 o1
     go_loopw [87] (fun kv wr=>∃ i:Nat,kv=.int .i64 i∧i≤N∧Sep w wr [.box gt 33 [.slice S1 ns sc,.slice D1 N dc],.own 3 (.slice S1 ns sc) ns o,.own 2 (.slice D1 N dc) N (mix tgt (List.replicate N 0) i),.box (w.heap.size+1) 33 [.slice none 0 0,.slice none 0 0],.box w.heap.size 33 [.slice A j c,.slice B m e],.ints A j s,.ints B m d,.ints Ao no o,.ints Aa j a]) (fun kv _=>N - (intOf kv).toNat)
     case atStart=>exact⟨0,rfl,by omega,by rw[a2p];exact H⟩
     case round =>
      clear H;obtain⟨i,rfl,hi,hS⟩:=hrel;have H:=Hd hS;clear hS;by_cases hli:i<N
      ·have hiz:=HSZ.out i hli
       go_wp2_with fail
       refine(a3y i (H.oldInts 7 rfl) ⟨by omega,by omega⟩).mono ?_;rintro e6 w6 ⟨⟨v,n6,rfl,hO⟩,hb6⟩;obtain⟨A6,c6,rfl,hc6,_,_⟩:=hO.form;obtain⟨_,hpl,hpw,_⟩:=a1o hiz;have hp6:n6=no:=by have:=hO.len;have:=HLo.out;omega
       replace H:=Hd ((H.addOwn hb6 hO).addNil 3);obtain⟨P,hP⟩:∃ P,Sh.placeOf o i=P:=⟨_,rfl⟩;rw[hP] at H hpl;have HP:=Hd hP;have HPL:=Hd (show P.length=no by have:=HLo.out;omega);subst hp6;clear hb6 hO hP hpl hpw hc6
       go_wp2_with fail
       go_loopw [95,12] (fun kv vf wr=>∃ k:Nat,kv=.int .i64 k∧k≤j∧Sep w wr [.own 3 vf k ((spP P a).take k),.own 3 (.slice A6 n6 c6) n6 P,.box gt 33 [.slice S1 ns sc,.slice D1 N dc],.own 3 (.slice S1 ns sc) ns o,.own 2 (.slice D1 N dc) N (mix tgt (List.replicate N 0) i),.box (w.heap.size+1) 33 [.slice none 0 0,.slice none 0 0],.box w.heap.size 33 [.slice A j c,.slice B m e],.ints A j s,.ints B m d,.ints Ao n6 o,.ints Aa j a]) (fun kv _ _=>j-(intOf kv).toNat)
       case atStart=>exact⟨0,rfl,by omega,H⟩
       case round =>
        clear H;obtain⟨k,rfl,hk,hS⟩:=hrel;by_cases hlk:k<j
        ·obtain⟨aa,x,haA,_,hx,hcx,hfx⟩:=(hS.oldInts 10 rfl).at_ (k:=k) hlk;subst haA;have hxi:=d2s HOK hx;obtain⟨xn,rfl⟩:=eZ hxi.1;have hxn:xn<n6:=by have:=HLo.out;omega
         obtain⟨pa,y,hpA,_,hy,hcy,hfy⟩:=((hS.ownInts 1 rfl).2.2).at_ (k:=xn) hxn;subst hpA;have HTK:=Hd (d9h hx hy);have HF:=Hd hfy;have H:=Hd hS;clear hS hx hy hxi hfx hfy
         go_wp2_with (at_builtin;refine a0x rfl (.tmp 98) (.tmp 106) 22 3 rfl underlying22 Tryz.infoInt H.out 0 rfl rfl y HF.out _ rfl ?c1 ?_)
         case c1=>omega
         intro v' w' h';have H8:=Hd h';clear h' hcx hcy;go_wp2;go_roundw
         case rel=>exact⟨k+1,by go_num,by omega,by rw[←HTK.out];exact H8⟩
         case measure=>simp[intOf];omega
        ·have hkn:j=k:=by omega
         subst hkn;rw[show(spP P a).take j=spP P a from List.take_of_length_le (by rw[b5j];have:=HLa.out;omega)] at hS;obtain⟨Af,cf,hvf,hcf,_,_⟩:=(hS.ownS 0 rfl).form;subst hvf;obtain⟨gb,cb,hv,hO⟩:=(hS.ownS 4 rfl).own (by omega);injection hv with hv1 _ hv3
         subst hv1;subst hv3;have H:=Hd hS;obtain⟨o0,o1⟩:=H.z2 2 rfl;obtain⟨t0,t1⟩:=H.z2 6 rfl;have hwi:=b8d HOK hiz;rw[HP.out] at hwi;obtain⟨X,hX⟩:∃ X,num s d (spP P a)=X:=⟨_,rfl⟩;have hfX:Fits X:=by rw[←hX];exact b6u HFD
         have C1:=a3e (w:=wr.drew) (c:=cf) (a1s (H.oldInts 7 rfl) hnc (H.oldInts 8 rfl) hme) (H.ownInts 0 rfl).2.2 HRT hwi.1 hwi.2;rw[hX] at C1;have HTX:=Hd (show tgt[i]?=some X by rw[HAT.out i hli,HP.out,hX]);clear hS hO hwi hX o0;have HM:=Hd (a4o (c:=0) HTL hli);have HFX:=Hd hfX;clear hfX
         go_upto_region 22 with fail
         go_region_held3 (fun w'=>w'.cell? ⟨gt,1,none⟩=some (.slice (some ⟨gb,0,none⟩) N dc)∧w'.cell? ⟨w.heap.size,0,none⟩=some (.slice A j c)∧w'.cell? ⟨w.heap.size,1,none⟩=some (.slice B m e)) (go_keep)
          (first|(go_at_call 128;refine C1.mono ?_;rintro e7 w7 ⟨rfl,hb7⟩;have H7:=Hd (H.drew.below hb7);have m0:=H7.c 2 1;obtain⟨m1,m2⟩:=H7.z2 6 rfl;have hcs:=(H7.own 4 rfl).cell HM;have hfs:=(H7.own 4 rfl).frozen i;have HS7:=Hd (H7.store 4 i HFX rfl);have k0:(w7.setCell ⟨gb,i,none⟩ (.int .i64 X)).cell? ⟨gt,1,none⟩=some (.slice (some ⟨gb,0,none⟩) N dc):=HS7.c 2 1;have k1:(w7.setCell ⟨gb,i,none⟩ (.int .i64 X)).cell? ⟨w.heap.size,0,none⟩=some (.slice A j c):=HS7.c 6 0;have k2:(w7.setCell ⟨gb,i,none⟩ (.int .i64 X)).cell? ⟨w.heap.size,1,none⟩=some (.slice B m e):=HS7.c 6 1))
         clear o1 t0 t1 m0 m1 m2 k0 k1 k2 hcs hfs;go_wp2;go_roundw
         case rel=>exact⟨i+1,by go_num,by omega,by rw[←a3i HTL.out HTX.out];exact HS7.sub [2,3,4,5,6,7,8,9,10] rfl (by decide)⟩
         case measure=>simp[intOf];omega
      ·have hin:N=i:=by omega
       subst hin;rw[a4n HTL.out] at H;obtain⟨o0,o1⟩:=H.z2 0 rfl;obtain⟨r0,r1,fr0,fr1⟩:=H.b2 3;go_wp2;rw[HQ.out];exact sY2 ((H.setBox 3 0 (.slice S1 ns sc) rfl).setBox 3 1 (.slice D1 N dc) rfl) 3 1 2 (.int .i64 0) results79
theorem c4o (h:Ten w v s d)(hA:Ints w Aa na a):
  Calls prog 78 #[v,.slice Aa na ca] w fun e w'=>(∃ u,e=.returned (.tuple #[u,.int .i64 (a6y s d a).1])∧OTen w' w.heap.size u (a6y s d a).2.1 (a6y s d a).2.2)∧Below w.heap.size w w':=by
 obtain⟨A,n,c,B,m,e,rfl,hnc,hme,hI,hJ⟩:=h;have h1:=(((((Sep.nil w).old hA).old hJ).old hI).allocBox w.heap.size 33 [.slice A n c,.slice B m e] rfl).allocBox (w.heap.size+1) 33 [.slice none 0 0,.slice none 0 0] (by simp);have hsl:=hI.len;have hnle:=hI.le;have hmle:=hJ.le;have HFD:=Hd hJ.fit;have HDL:=Hd hJ.len;have hla:=hA.len;have hlea:=hA.le
 go_enter func78,ntmps78
 go_upto_region 1 with fail
 generalize (w.alloc (.cells #[.slice A n c,.slice B m e] 33)).alloc (.cells #[.slice none 0 0,.slice none 0 0] 33)=W at *;have H:=Hd h1;clear h1 hI hJ hA;have HSL:=Hd hsl;clear hsl;have HLa:=Hd hla;clear hla;have hT:=a1s (H.oldInts 2 rfl) hnc (H.oldInts 3 rfl) hme;have C1:=a2a hT;have HT:=Hd hT;clear hT;obtain⟨t0,t1⟩:=H.z2 1 rfl
 go_wp2_with fail
 cases hr:a0a s d with
 | false =>
  rw[hr] at C1;refine C1.mono ?_;rintro e2 w2 ⟨rfl,hb2⟩;replace H:=Hd (H.below hb2);have HX:=Hd (b8k (a:=a) hr);obtain⟨r0,r1,fr0,fr1⟩:=H.b2 0;clear hb2 hr C1 t0 t1;go_wp2;rw[HX.out]
  exact sN2 H 0 13 results78
 | true =>
  rw[hr] at C1;refine C1.mono ?_;rintro e2 w2 ⟨rfl,hb2⟩;replace H:=Hd (H.below hb2);have HRT:=Hd hr;clear hb2 hr C1 t0 t1 HT;have hn4:n≤4:=by have:=(a1f HRT).1;have:=HSL.out;omega
  have hm:=a0t underlying22 Tryz.infoInt (n:=n) (by omega);have h3:=H.noughts 3 n (by omega);obtain⟨t0,t1⟩:=H.z2 1 rfl
  go_upto_region 4 with fail
  generalize w2.alloc (.cells (noughts n) 3)=w3 at *;generalize w2.heap.size=gi at *;replace H:=Hd h3;clear h3 hm t0 t1;by_cases hlen:na=n;rotate_left
  ·have HX:=Hd (b4p (a:=a) HRT (fun hc=>absurd hc.1 (by have:=HSL.out;have:=HLa.out;omega)));have hg:((na:Int) != (n:Int))=true:=by simp;omega
   clear hlen;obtain⟨r0,r1,fr0,fr1⟩:=H.b2 1;go_wp2;rw[HX.out];exact sN2 H 1 1 results78
  obtain rfl:na=n:=hlen;replace H:=Hd (H.addNil 3)
  go_wp2_with fail
  go_loopw [30,7] (fun kv vs wr=>∃ j:Nat,kv=.int .i64 j∧j≤na∧(∀ k,k<j→TuAt s a k)∧Sep w wr [.own 3 vs j ((a2s s a).take j),.own 3 (.slice (some ⟨gi,0,none⟩) na na) na (marks na (a.take j)),.box (w.heap.size+1) 33 [.slice none 0 0,.slice none 0 0],.box w.heap.size 33 [.slice A na c,.slice B m e],.ints A na s,.ints B m d,.ints Aa na a]) (fun kv _ _=>na-(intOf kv).toNat)
  case atStart=>exact⟨0,rfl,by omega,fun k hk=>by omega,by rw[List.take_zero,List.take_zero,d4o];exact H⟩
  case round =>
   clear H;obtain⟨j,rfl,hj,hall,hS⟩:=hrel;have HA:=Hd hall;clear hall;by_cases hlt:j<na
   ·obtain⟨aa,x,haA,_,hx,hcx,hfx⟩:=(hS.oldInts 6 rfl).at_ (k:=j) hlt;subst haA;have HE:=Hd hx;clear hx;have H:=Hd hS;clear hS;have HBAD:=Hd (fun (hbad:¬(0≤x∧x<na∧x∉a.take j))=>b4p (d:=d) HRT (fun hc=>hbad (by have:=hc.2 j x HE;rwa [HSL.out] at this)));obtain⟨hfx1,hfx2⟩:=hfx;by_cases g1:x<0
    ·have d1:decide (x<0)=true:=by simpa using g1
     have HX:=Hd (HBAD (by omega));obtain⟨r0,r1,fr0,fr1⟩:=H.b2 2;go_wp2;rw[HX.out];exact sN2 H 2 1 results78
    by_cases g2:(na:Int)≤x
    ·have d2:decide ((na:Int)≤x)=true:=by simpa using g2
     have HX:=Hd (HBAD (by omega));obtain⟨r0,r1,fr0,fr1⟩:=H.b2 2;go_wp2;rw[HX.out];exact sN2 H 2 1 results78
    obtain⟨xn,rfl⟩:=eZ (by omega:0≤x);have hxn:xn<na:=by omega
    have e2:decide (na≤xn)=false:=by simp;omega
    have hmk:=c9t (n:=na) (l:=a.take j) (x:=(xn:Int)) (by omega) (by omega);rw[Int.toNat_natCast] at hmk;have hci:=(H.own 1 rfl).cell hmk;have hfi:=(H.own 1 rfl).frozen xn;clear hmk;by_cases g3:(xn:Int)∈a.take j
    ·rw[iP g3] at hci;have HX:=Hd (HBAD (fun hh=>hh.2.2 g3));obtain⟨r0,r1,fr0,fr1⟩:=H.b2 2;go_wp2;rw[HX.out];exact sN2 H 2 1 results78
    rw[iN g3] at hci;have HG3:=Hd g3;clear g3 HBAD;obtain⟨sa,y,hsA,_,hy,hcy,hfy⟩:=(H.oldInts 4 rfl).at_ (k:=xn) hxn;subst hsA;have HY:=Hd hy;have HF:=Hd hfy;clear hy hfy;have hS2:=H.store 1 xn (x:=1) ⟨by omega,by omega⟩ rfl;have hms:=d4f (n:=na) (l:=a.take j) (x:=(xn:Int)) (by omega) (by omega);rw[Int.toNat_natCast] at hms;rw[hms] at hS2;have hS3:=hS2;clear hS2 hms
    go_upto_region 13 with fail
    generalize wr.setCell ⟨gi,xn,none⟩ (.int .i64 1)=w8 at *;have H8:=Hd hS3.drew;have t0:=hS3.c 3 0;have hcx8:=(hS3.oldInts 6 rfl).get HE;have hcy8:=(hS3.oldInts 4 rfl).get HY;clear hS3 hci hfi hcx hcy
    go_region_law (refine a0v rfl (.tmp 67) (.tmp 76) 22 3 rfl underlying22 Tryz.infoInt H8.out 0 rfl rfl y HF.out _ rfl ?_ ?_;(focus omega);intro v' w' h';have H9:=Hd h';clear h')
    all_goals (
     clear t0 hcx8 hcy8;go_wp2;go_roundw
     case rel=>exact⟨j+1,by go_num,by omega,fun k hk=>by
      rcases Nat.lt_or_ge k j with h' | h'
      ·exact HA k h'
      ·obtain rfl:k=j:=by omega
       intro x hx;rw[HE.out] at hx;injection hx with hx;subst hx
       exact⟨by omega,by rw[HSL.out];omega,HG3⟩,
      by rw[←d0p HE.out (by rw[Int.toNat_natCast];exact HY.out),List.take_add_one,HE.out];exact H9⟩
     case measure=>simp[intOf];omega)
   ·have hjn:na=j:=by omega
    subst hjn;rw[show(a2s s a).take na=a2s s a from List.take_of_length_le (by rw[a2x];have:=HLa.out;omega)] at hS;have HOK:=Hd (show TuOk s a from⟨by have:=HSL.out;have:=HLa.out;omega,fun k x hx=>HA.out k (by have:=(lL hx);have:=HLa.out;omega) x hx⟩);obtain⟨At,ct,hvt,hct,_,_⟩:=(hS.ownS 0 rfl).form;subst hvt;have H:=Hd hS;clear hS HA hlt
    go_wp2_with fail
    refine(a2d 0 ((H.ownInts 0 rfl).2.2) (by omega) ⟨by omega,by omega⟩).mono ?_;rintro e4 w4 ⟨⟨u,rfl,hu⟩,hb4⟩;obtain⟨S1,ns,sc,D1,N,dc,rfl,hs1,hd1,hsc,hdc,hNle,h5⟩:=H.addTen hb4 hu;rw[List.length_replicate] at hd1;rw[hd1] at h5;obtain⟨tgt,htg⟩:∃ t,c7d s d a=t:=⟨_,rfl⟩;have HTL:=Hd (show tgt.length=N by rw[←htg,c7d,a2y,hd1]);have HAT:=Hd (show ∀ i:Nat,i<N→tgt[i]?=some (num s d (b6p s.length a (Sh.placeOf (a2s s a) i))) from fun i hi=>by rw[←htg,c7d];exact a7l (by omega));have HSZ:=Hd (show ∀ i:Nat,i<N→(i:Int)<Sh.size (a2s s a) from fun i hi=>by have:=Sh.size_bd (a2s s a);omega);have HQ:=Hd ((c3p HRT HOK).trans (by rw[htg]));clear htg;have h6:=h5.allocBox w4.heap.size 33 [.slice S1 ns sc,.slice D1 N dc] rfl;clear hu hb4 h5 hd1 hs1
    go_upto_region 16 with fail
    generalize w4.alloc (.cells #[.slice S1 ns sc,.slice D1 N dc] 33)=w5 at *;generalize w4.heap.size=gt at *;replace H:=Hd h6;clear h6;obtain⟨o0,o1⟩:=H.z2 0 rfl
    go_wp2_with fail
    clear o0 o1
    go_loopw [84] (fun kv wr=>∃ i:Nat,kv=.int .i64 i∧i≤N∧Sep w wr [.box gt 33 [.slice S1 ns sc,.slice D1 N dc],.own 3 (.slice S1 ns sc) ns (a2s s a),.own 2 (.slice D1 N dc) N (mix tgt (List.replicate N 0) i),.own 3 (.slice At na ct) na (a2s s a),.own 3 (.slice (some ⟨gi,0,none⟩) na na) na (marks na (a.take na)),.box (w.heap.size+1) 33 [.slice none 0 0,.slice none 0 0],.box w.heap.size 33 [.slice A na c,.slice B m e],.ints A na s,.ints B m d,.ints Aa na a]) (fun kv _=>N - (intOf kv).toNat)
    case atStart=>exact⟨0,rfl,by omega,by rw[a2p];exact H⟩
    case round =>
     clear H;obtain⟨i,rfl,hi,hS⟩:=hrel;have H:=Hd hS;clear hS;by_cases hli:i<N
     ·have hiz:=HSZ.out i hli
      go_wp2_with fail
      refine(a3y i ((H.ownInts 3 rfl).2.2) ⟨by omega,by omega⟩).mono ?_;rintro e6 w6 ⟨⟨v,n6,rfl,hO⟩,hb6⟩;obtain⟨A6,c6,rfl,hc6,_,_⟩:=hO.form;obtain⟨_,hpl,hpw,_⟩:=a1o hiz;have hp6:na=n6:=by have:=hO.len;have:=HLa.out;rw[a2x] at hpl;omega
      replace H:=Hd (H.addOwn hb6 hO);obtain⟨P,hP⟩:∃ P,Sh.placeOf (a2s s a) i=P:=⟨_,rfl⟩;rw[hP] at H hpl;have HP:=Hd hP;have HPL:=Hd (show P.length=na by have:=HLa.out;rw[a2x] at hpl;omega);subst hp6;clear hb6 hO hP hpl hpw hc6;have hm:=a0t underlying22 Tryz.infoInt (n:=na) (by omega);have h3:=H.noughts 3 na (by omega)
      go_upto_region 21 with fail
      generalize w6.alloc (.cells (noughts na) 3)=w7 at *;generalize w6.heap.size=gf at *;replace H:=Hd h3;clear h3 hm
      go_wp2_with fail
      go_loopw [95] (fun kv wr=>∃ k:Nat,kv=.int .i64 k∧k≤na∧Sep w wr [.own 3 (.slice (some ⟨gf,0,none⟩) na na) na (a4r (List.replicate na 0) a P k),.own 3 (.slice A6 na c6) na P,.box gt 33 [.slice S1 ns sc,.slice D1 N dc],.own 3 (.slice S1 ns sc) ns (a2s s a),.own 2 (.slice D1 N dc) N (mix tgt (List.replicate N 0) i),.own 3 (.slice At na ct) na (a2s s a),.own 3 (.slice (some ⟨gi,0,none⟩) na na) na (marks na (a.take na)),.box (w.heap.size+1) 33 [.slice none 0 0,.slice none 0 0],.box w.heap.size 33 [.slice A na c,.slice B m e],.ints A na s,.ints B m d,.ints Aa na a]) (fun kv _=>na-(intOf kv).toNat)
      case atStart=>exact⟨0,rfl,by omega,H⟩
      case round =>
       clear H;obtain⟨k,rfl,hk,hS⟩:=hrel;by_cases hlk:k<na
       ·obtain⟨aa,x,haA,_,hx,hcx,hfx⟩:=(hS.oldInts 11 rfl).at_ (k:=k) hlk;subst haA;have hxi:=b4r HOK hx;obtain⟨xn,rfl⟩:=eZ hxi.1;have hxn:xn<na:=by have:=HSL.out;omega
        obtain⟨pa,y,hpA,_,hy,hcy,hfy⟩:=((hS.ownInts 1 rfl).2.2).at_ (k:=k) hlk;subst hpA;obtain⟨z,hz⟩:=a0f (l:=a4r (List.replicate na 0) a P k) (k:=xn) (by rw[a5q,List.length_replicate];exact hxn);have hcz:=(hS.own 0 rfl).cell hz;have hfz:=(hS.own 0 rfl).frozen xn;have hS2:=hS.store 0 xn hfy rfl;have hss:=a4y (f:=List.replicate na 0) hx hy;rw[Int.toNat_natCast] at hss;rw[hss] at hS2;have HS2:=Hd hS2;clear hS hS2 hss hz hx hy hxi hfx hfy
        go_upto_region 24 with fail
        go_still_tail 10,(by kernel_rfl)
        change wpList _ _ _ _ _ wr.drew;have hcz1:wr.drew.cell? ⟨gf,xn,none⟩=some (.int .i64 z):=hcz;have hfz1:wr.drew.frozen? ⟨gf,xn,none⟩=false:=hfz;go_wp2;go_roundw
        case rel=>exact⟨k+1,by go_num,by omega,HS2.drew⟩
        case measure=>simp[intOf];omega
       ·have hkn:na=k:=by omega
        subst hkn;rw[show a4r (List.replicate na 0) a P na=b6p s.length a P by rw[b6p,HSL.out,HLa.out]] at hS;obtain⟨gb,cb,hv,hO⟩:=(hS.ownS 4 rfl).own (by omega);injection hv with hv1 _ hv3
        subst hv1;subst hv3;have H:=Hd hS;obtain⟨o0,o1⟩:=H.z2 2 rfl;obtain⟨t0,t1⟩:=H.z2 8 rfl;have hwi:=b2z HOK hiz;rw[HP.out] at hwi;obtain⟨X,hX⟩:∃ X,num s d (b6p s.length a P)=X:=⟨_,rfl⟩;have hfX:Fits X:=by rw[←hX];exact b6u HFD
        have C1:=a3e (w:=wr.drew) (c:=na) (a1s (H.oldInts 9 rfl) hnc (H.oldInts 10 rfl) hme) (H.ownInts 0 rfl).2.2 HRT hwi.1 hwi.2;rw[hX] at C1;have HTX:=Hd (show tgt[i]?=some X by rw[HAT.out i hli,HP.out,hX]);clear hS hO hwi hX o0;have HM:=Hd (a4o (c:=0) HTL hli);have HFX:=Hd hfX;clear hfX
        go_upto_region 26 with fail
        go_region_held3 (fun w'=>w'.cell? ⟨gt,1,none⟩=some (.slice (some ⟨gb,0,none⟩) N dc)∧w'.cell? ⟨w.heap.size,0,none⟩=some (.slice A na c)∧w'.cell? ⟨w.heap.size,1,none⟩=some (.slice B m e)) (go_keep)
         (first|(go_at_call 128;refine C1.mono ?_;rintro e7 w7 ⟨rfl,hb7⟩;have H7:=Hd (H.drew.below hb7);have m0:=H7.c 2 1;obtain⟨m1,m2⟩:=H7.z2 8 rfl;have hcs:=(H7.own 4 rfl).cell HM;have hfs:=(H7.own 4 rfl).frozen i;have HS7:=Hd (H7.store 4 i HFX rfl);have k0:(w7.setCell ⟨gb,i,none⟩ (.int .i64 X)).cell? ⟨gt,1,none⟩=some (.slice (some ⟨gb,0,none⟩) N dc):=HS7.c 2 1;have k1:(w7.setCell ⟨gb,i,none⟩ (.int .i64 X)).cell? ⟨w.heap.size,0,none⟩=some (.slice A na c):=HS7.c 8 0;have k2:(w7.setCell ⟨gb,i,none⟩ (.int .i64 X)).cell? ⟨w.heap.size,1,none⟩=some (.slice B m e):=HS7.c 8 1))
        clear o1 t0 t1 m0 m1 m2 k0 k1 k2 hcs hfs;go_wp2;go_roundw
        case rel=>exact⟨i+1,by go_num,by omega,by rw[←a3i HTL.out HTX.out];exact HS7.sub [2,3,4,5,6,7,8,9,10,11] rfl (by decide)⟩
        case measure=>simp[intOf];omega
     ·have hin:N=i:=by omega
      subst hin;rw[a4n HTL.out] at H;obtain⟨o0,o1⟩:=H.z2 0 rfl;obtain⟨r0,r1,fr0,fr1⟩:=H.b2 5;go_wp2;rw[HQ.out];exact sY2 ((H.setBox 5 0 (.slice S1 ns sc) rfl).setBox 5 1 (.slice D1 N dc) rfl) 5 1 2 (.int .i64 0) results78
end Go.Proofs.YtjblengklgkgfaaGreat
