import Derived.Test.YtjblengklgkgfaaGreatPaz
set_option maxRecDepth 100000
set_option maxHeartbeats 12800000
namespace Go.Proofs.YtjblengklgkgfaaGreat
open Go.RowKit Go.Proofs.Tryz
variable {a b s t:List Int} {n:Nat} {w:World}
theorem c4f {c:List Int}(h:Sh.right (a++b++c)=true)(hp:∀ x∈a++b++c,1≤x∧x≤32):Sh.right b=true∧Sh.size b=Sh.pd b∧0<Sh.pd b:=by
 have ha:0<Sh.pd a:=pd_pos fun x hx=>(hp x (by simp[hx])).1
 have hb:0<Sh.pd b:=pd_pos fun x hx=>(hp x (by simp[hx])).1
 have hc:0<Sh.pd c:=pd_pos fun x hx=>(hp x (by simp[hx])).1
 obtain⟨h1,h2,h3⟩:=Sh.right_iff.1 h;rw[Sh.pr_pd,Sh.pd_append,Sh.pd_append] at h3;have h4:Sh.pd b≤Sh.pd a*Sh.pd b:=by have:=Int.mul_le_mul_of_nonneg_right (show 1≤Sh.pd a by omega) (show 0≤Sh.pd b by omega);omega
 have h5:Sh.pd a*Sh.pd b≤Sh.pd a*Sh.pd b*Sh.pd c:=by have:=Int.mul_le_mul_of_nonneg_left (show 1≤Sh.pd c by omega) (show 0≤Sh.pd a*Sh.pd b by omega);omega
 have hr:Sh.right b=true:=Sh.right_iff.2 ⟨by simp at h1;omega,fun x hx=>h2 x (by simp[hx]),by rw[Sh.pr_pd];omega⟩;exact⟨hr,by rw[Sh.size_of hr,Sh.pr_pd],hb⟩
theorem d5o {i:Nat}(h:c0h s t n)(hi:(i:Int)<Sh.size (dotS s t n)):
  Sh.size ((s.drop n).take (s.length-1-n))=(dotA s n:Int)∧Sh.size (t.drop (n+1))=(dotB t n:Int)∧0<dotA s n∧0<dotB t n:=by
 have e3:s.take n++(s.drop n).take (s.length-1-n)=s.take (s.length-1):=by
  have:=List.take_append_drop n (s.take (s.length-1));have hla:=h.la;rw[List.take_take,List.drop_take,show min n (s.length-1)=n by omega] at this;exact this
 have eS:dotS s t n=s.take n++(s.drop n).take (s.length-1-n)++t.drop (n+1):=by rw[e3];rfl
 have hp:=(Sh.size_pos (by omega) hi).2;have hr:=h.rs;rw[eS] at hp hr;obtain⟨_,a2,a3⟩:=c4f hr hp;obtain⟨_,b2,b3⟩:=c4f (a:=s.take n++(s.drop n).take (s.length-1-n)) (b:=t.drop (n+1)) (c:=[]) (by rw[List.append_nil];exact hr) (by rw[List.append_nil];exact hp);exact⟨by rw[a2,dotA];omega,by rw[b2,dotB];omega,by rw[dotA];omega,by rw[dotB];omega⟩
theorem d8z {A:Addr}{c lo hi:Nat}(h1:lo≤hi)(h2:hi≤n)(hc:n≤c):∀ w,(Instr.slice 22 (.slice (some A) n c) (some (.int .i64 (lo:Int))) (some (.int .i64 (hi:Int))) none).run prog w=.ok (.slice (dropA (some A) c lo) (hi-lo) (c-lo)) w:=by
 intro w;have hu:prog.underlying 22=some (.slice 3):=by kernel_rfl
 have h3:hi≤c:=by omega
 by_cases hcl:c=lo
 ·subst hcl
  go_simp
  rw[dropA,iP rfl]
 ·go_simp
  rw[dropA,iN hcl]
  rfl
theorem b8l {A B:Option Addr}{na ca nb cb:Nat}(n:Int)(hA:Ints w A na a)(hB:Ints w B nb b)(ka:na≤ca)(kb:nb≤cb):
  Calls prog 123 #[.slice A na ca,.slice B nb cb,.int .i64 n] w fun e w'=>(∃ v m,e=.returned (.tuple #[v,.int .i64 (dsR a b n).1])∧OwnS w' w.heap.size 3 v m (dsR a b n).2)∧Below w.heap.size w w':=by
 have hla:=hA.len;have hlb:=hB.len;have hlea:=hA.le;have hleb:=hB.le;by_cases h0:n<0
 ·have d0:decide (n<0)=true:=by simpa using h0
  have HX:=Hd (b2t (a:=a) (b:=b) (n:=n) (by omega))
  go_enter func123,ntmps123
  go_wp2;go_ret2;rw[HX.out];exact⟨⟨_,0,rfl,OwnS.nil_ _ _ _⟩,Below.refl _ _⟩
 have d0:decide (n<0)=false:=by simpa using h0
 obtain⟨k,rfl⟩:=eZ (by omega:0≤n);clear h0;by_cases h1:na≤k
 ·have d1:decide (na≤k)=true:=by simpa using h1
  have HX:=Hd (b2t (a:=a) (b:=b) (n:=(k:Int)) (by omega));clear hla hlb
  go_enter func123,ntmps123
  go_wp2;go_ret2;rw[HX.out];exact⟨⟨_,0,rfl,OwnS.nil_ _ _ _⟩,Below.refl _ _⟩
 have d1:decide (na≤k)=false:=by simpa using h1
 by_cases h2:nb≤k
 ·have d2:decide (nb≤k)=true:=by simpa using h2
  have HX:=Hd (b2t (a:=a) (b:=b) (n:=(k:Int)) (by omega));clear hla hlb
  go_enter func123,ntmps123
  go_wp2;go_ret2;rw[HX.out];exact⟨⟨_,0,rfl,OwnS.nil_ _ _ _⟩,Below.refl _ _⟩
 have d2:decide (nb≤k)=false:=by simpa using h2
 have hka:k<na:=by omega
 have hkb:k<nb:=by omega
 clear h1 h2;have HAB:=Hd (show k<a.length∧k<b.length by omega);obtain⟨pa,x,hpA,_,hx,hcx,hfx⟩:=hA.at_ (k:=na-1) (by omega);obtain⟨pb,y,hpB,_,hy,hcy,hfy⟩:=hB.at_ (k:=k) hkb;subst hpA;subst hpB;have HX:=Hd (show a.getD (a.length-1) 0=x by rw[gD,hla,hx];rfl);have HY:=Hd (show b.getD k 0=y by rw[gD,hy];rfl);have HLA:=Hd hla;have HLB:=Hd hlb;have IA:=Hd (hA.take (k:=k) (by omega));have IB:=Hd (hB.take (k:=k) (by omega));have HA:=Hd hA;have HB:=Hd hB;clear hx hy hfx hfy hla hlb hA hB;have hwn:IntKind.i64.wrap ((na:Int)-1)=((na-1:Nat):Int):=by rw[show(na:Int)-1=((na-1:Nat):Int) by omega];exact IntWalk.i64_in _ ⟨by omega,by omega⟩
 have CA:=a1w (c:=ca) HA;have CB:=a1w (c:=cb) HB
 cases RA:Sh.right a with
 | false =>
  rw[RA] at CA;have HX:=Hd (a5s HAB (by rw[a6u,RA];rfl))
  go_enter func123,ntmps123
  go_wp2_with fail
  refine CA.mono ?_;rintro e1 w1 ⟨rfl,rfl⟩;clear CA;go_wp2;go_ret2;rw[HX.out]
  exact⟨⟨_,0,rfl,OwnS.nil_ _ _ _⟩,Below.refl _ _⟩
 | true =>
  rw[RA] at CA
  cases RB:Sh.right b with
  | false =>
   rw[RB] at CB;have HX:=Hd (a5s HAB (by rw[a6u,RA,RB];rfl))
   go_enter func123,ntmps123
   go_wp2_with fail
   refine CA.mono ?_;rintro e1 w1 ⟨rfl,rfl⟩;clear CA
   go_wp2_with fail
   refine CB.mono ?_;rintro e2 w2 ⟨rfl,rfl⟩;clear CB;go_wp2;go_ret2;rw[HX.out]
   exact⟨⟨_,0,rfl,OwnS.nil_ _ _ _⟩,Below.refl _ _⟩
  | true =>
   rw[RB] at CB
   cases RP:(a.take k==b.take k) with
   | false =>
    have C3:=fun q=>a9h (c:=ca) (d:=cb) (IA.drewN q) (IB.drewN q)
    simp only[RP] at C3;replace C3:=Hd C3;have HX:=Hd (a5s HAB (by rw[a6u,RA,RB,show decide (a.take k=b.take k)=false from decide_eq_false (by simpa using RP)];rfl))
    go_enter func123,ntmps123
    go_wp2_with fail
    refine CA.mono ?_;rintro e1 w1 ⟨rfl,rfl⟩;clear CA
    go_wp2_with fail
    refine CB.mono ?_;rintro e2 w2 ⟨rfl,rfl⟩;clear CB
    go_upto_region 6 with fail
    go_quiet (first|(go_at_call 58;with_reducible exact a3b (C3.out _)))
    go_wp2;go_ret2;rw[HX.out]
    exact⟨⟨_,0,rfl,OwnS.nil_ _ _ _⟩,(Sep.nil w).drewN _ |>.base⟩
   | true =>
    have C3:=fun q=>a9h (c:=ca) (d:=cb) (IA.drewN q) (IB.drewN q)
    simp only[RP] at C3;replace C3:=Hd C3;by_cases hxy:x=y
    ·subst hxy;have HFT:=Hd (show a6u a b k=true from b1s.2 ⟨RA,RB,by simpa using RP,HX.trans HY.symm⟩);have dxx:(x != x)=false:=by simp
     have hna4:na≤4:=by have:=(Sh.right_iff.1 RA).1;have:=HLA.out;omega
     have hnb4:nb≤4:=by have:=(Sh.right_iff.1 RB).1;have:=HLB.out;omega
     go_enter func123,ntmps123
     go_wp2_with fail
     refine CA.mono ?_;rintro e1 w1 ⟨rfl,rfl⟩;clear CA
     go_wp2_with fail
     refine CB.mono ?_;rintro e2 w2 ⟨rfl,rfl⟩;clear CB
     go_upto_region 6 with fail
     go_quiet (first|(go_at_call 58;with_reducible exact a3b (C3.out _)))
     go_upto_region 8 with fail
     have H:=Hd ((Sep.nil w).drewN nq);generalize w.drewN nq=w5 at *;clear C3 HY dxx hcx hcy;obtain⟨nz,hnz⟩:∃ nz:Nat,na-1+nb-k-1=nz:=⟨_,rfl⟩;have hs3:((na-1:Nat):Int)+(nb:Int)-(k:Int)-1=(nz:Int):=by omega
     have hnz6:nz≤8:=by omega
     have HNZ:=Hd hnz;clear hnz;have hm:=b0a underlying22 Tryz.infoInt (n:=nz) (by omega);have h1:=H.room 3 nz (by omega)
     go_upto_region 9 with fail
     generalize w5.alloc (.cells (noughts nz) 3)=w6 at *;replace H1:=Hd h1;clear h1 hm hs3 H;obtain⟨A2,hsl,hI2⟩:=b0w ((k:Int)+1) (k:=k+1) (by omega) HB (by omega) (by omega) kb;have HI2:=Hd hI2;clear hI2;have hwk:IntKind.i64.wrap ((k:Int)+1)=(k:Int)+1:=IntWalk.i64_in _ ⟨by omega,by omega⟩;have HI1:=Hd (HA.take (k:=na-1) (by omega));have hca1:na≤ca+1:=by omega
     go_wp2_with (at_builtin;refine a0l rfl (.tmp 62) (.tmp 65) 22 3 rfl underlying22 Tryz.infoInt H1.out 0 rfl rfl _ (na-1) ca _ rfl (H1.out.oldI HI1.out) ?c1 ?_)
     case c1=>omega
     intro v2 w2 h2;have H2:=Hd h2;clear h2
     go_wp2_with (at_builtin;refine a0l rfl (.tmp 67) (.tmp 71) 22 3 rfl underlying22 Tryz.infoInt H2.out 0 rfl rfl _ (nb-(k+1)) (cb-(k+1)) _ rfl (H2.out.oldI HI2.out) ?c1 ?_)
     case c1=>omega
     intro v3 w3 h3;have H3:=Hd h3;clear h3;have HL:=Hd (show a.take (na-1)++b.drop (k+1)=dotS a b k by rw[dotS,HLA.out]);have hS3:=H3.out;rw[HL.out] at hS3;obtain⟨nu,hnu⟩:∃ nu,na-1+(nb-(k+1))=nu:=⟨_,rfl⟩;rw[hnu] at hS3;obtain⟨Z,hZ⟩:∃ Z,dotS a b k=Z:=⟨_,rfl⟩;rw[hZ] at hS3;replace H3:=Hd hS3;clear hS3;obtain⟨A5,c5,hv,_,_,_⟩:=(H3.ownS 0 rfl).form;subst hv;have C5:=a1w (c:=c5) ((H3.ownInts 0 rfl).2.2);clear hsl H1 H2 hwk hnu
     cases ho:Sh.right Z with
     | false =>
      rw[ho] at C5
      go_wp2_with fail
      refine C5.mono ?_;rintro e5 w5 ⟨rfl,rfl⟩;have HX:=Hd (b5p HAB HFT (by rw[hZ];exact ho));clear C5 ho hZ;go_wp2;go_ret2;rw[HX.out]
      exact⟨⟨_,0,rfl,OwnS.nil_ _ _ _⟩,H3.base⟩
     | true =>
      rw[ho] at C5
      go_wp2_with fail
      refine C5.mono ?_;rintro e5 w5 ⟨rfl,rfl⟩;have HX:=Hd (c9u HAB HFT (by rw[hZ];exact ho));rw[hZ] at HX;clear C5 ho hZ;go_wp2;go_ret2;rw[HX.out];exact⟨⟨_,_,rfl,H3.ownS 0 rfl⟩,H3.base⟩
    ·have dxy:(x != y)=true:=by simpa using hxy
     have HNE:=Hd hxy;clear hxy;have HX:=Hd (a5s HAB (by rw[a6u,HX.out,HY.out,show decide (x=y)=false from decide_eq_false HNE.out];simp))
     go_enter func123,ntmps123
     go_wp2_with fail
     refine CA.mono ?_;rintro e1 w1 ⟨rfl,rfl⟩;clear CA
     go_wp2_with fail
     refine CB.mono ?_;rintro e2 w2 ⟨rfl,rfl⟩;clear CB
     go_upto_region 6 with fail
     go_quiet (first|(go_at_call 58;with_reducible exact a3b (C3.out _)))
     go_wp2;go_ret2;rw[HX.out];exact⟨⟨_,0,rfl,OwnS.nil_ _ _ _⟩,(Sep.nil w).drewN _ |>.base⟩
theorem d9f {v v' : Value}{d k:List Int}(n0:Int)(h:Ten w v s d)(g:Ten w v' t k):
  Calls prog 71 #[v,v', .int .i64 n0] w fun e w'=>(∃ u,e=.returned (.tuple #[u,.int .i64 (dotR s d t k n0).1])∧OTen w' w.heap.size u (dotR s d t k n0).2.1 (dotR s d t k n0).2.2)∧Below w.heap.size w w':=by
 obtain⟨A,n,c,B,m,e,rfl,hnc,hme,hI,hJ⟩:=h;obtain⟨A2,n2,c2,B2,m2,e2,rfl,hnc2,hme2,hI2,hJ2⟩:=g;have h1:=((((((Sep.nil w).old hJ2).old hI2).old hJ).old hI).allocBox w.heap.size 33 [.slice A n c,.slice B m e] rfl).allocBox (w.heap.size+1) 33 [.slice A2 n2 c2,.slice B2 m2 e2] (by simp);replace h1:=h1.allocBox (w.heap.size+1+1) 33 [.slice none 0 0,.slice none 0 0] (by simp);have hnle:=hI.le;have hmle:=hJ.le;have HFD:=Hd hJ.fit;have HDL:=Hd hJ.len;have HSL:=Hd hI.len;have hnle2:=hI2.le;have hmle2:=hJ2.le;have HFK:=Hd hJ2.fit;have HKL:=Hd hJ2.len;have HTL:=Hd hI2.len;clear hI hJ hI2 hJ2
 go_enter func71,ntmps71
 go_upto_region 1 with fail
 generalize ((w.alloc (.cells #[.slice A n c,.slice B m e] 33)).alloc (.cells #[.slice A2 n2 c2,.slice B2 m2 e2] 33)).alloc (.cells #[.slice none 0 0,.slice none 0 0] 33)=W at *;have H:=Hd h1;clear h1;obtain⟨a0,a1⟩:=H.z2 2 rfl;obtain⟨b0,b1⟩:=H.z2 1 rfl;have C1:=a2q (a1s (H.oldInts 3 rfl) hnc (H.oldInts 4 rfl) hme)
 go_wp2_with fail
 cases hr:a0a s d with
 | false =>
  rw[hr] at C1;refine C1.mono ?_;rintro e3 w3 ⟨rfl,hb3⟩;replace H:=Hd (H.below hb3);have HX:=Hd (b2b (s:=s) (d:=d) (t:=t) (k:=k) (n:=n0) (by rw[hr];rfl));obtain⟨r0,r1,fr0,fr1⟩:=H.b2 0;clear hb3 hr C1 a0 a1 b0 b1;go_wp2;rw[HX.out]
  exact sN2 H 0 13 results71
 | true =>
  rw[hr] at C1;refine C1.mono ?_;rintro e3 w3 ⟨rfl,hb3⟩;replace H:=Hd (H.below hb3);have HRT:=Hd hr;clear hb3 hr C1 a0 a1 b0 b1;obtain⟨a0,a1⟩:=H.z2 2 rfl;obtain⟨b0,b1⟩:=H.z2 1 rfl;have C2:=a2q (a1s (H.oldInts 5 rfl) hnc2 (H.oldInts 6 rfl) hme2)
  go_wp2_with fail
  cases hr2:a0a t k with
  | false =>
   rw[hr2] at C2;refine C2.mono ?_;rintro e4 w4 ⟨rfl,hb4⟩;replace H:=Hd (H.below hb4);have HX:=Hd (b2b (s:=s) (d:=d) (t:=t) (k:=k) (n:=n0) (by rw[HRT.out,hr2];rfl));obtain⟨r0,r1,fr0,fr1⟩:=H.b2 0;clear hb4 hr2 C2 a0 a1 b0 b1;go_wp2;rw[HX.out]
   exact sN2 H 0 13 results71
  | true =>
   rw[hr2] at C2;refine C2.mono ?_;rintro e4 w4 ⟨rfl,hb4⟩;replace H:=Hd (H.below hb4);have HRT2:=Hd hr2;clear hb4 hr2 C2 a0 a1 b0 b1;have hn4:n≤4:=by have:=(a1f HRT).1;have:=HSL.out;omega
   have hn42:n2≤4:=by have:=(a1f HRT2).1;have:=HTL.out;omega
   have hm4:m≤4096:=by have:=(a1f HRT).2;have:=HDL.out;omega
   have hm42:m2≤4096:=by have:=(a1f HRT2).2;have:=HKL.out;omega
   obtain⟨a0,a1⟩:=H.z2 2 rfl;obtain⟨b0,b1⟩:=H.z2 1 rfl;have C3:=b8l (ca:=c) (cb:=c2) n0 (H.oldInts 3 rfl) (H.oldInts 5 rfl) hnc hnc2;have HBOTH:=Hd (show(a0a s d&&a0a t k)=true by rw[HRT.out,HRT2.out];rfl)
   go_wp2_with fail
   refine C3.mono ?_;rintro e5 w5 ⟨⟨vz,nz,rfl,hO⟩,hb5⟩;clear C3 a0 a1 b0 b1;by_cases hz:(dsR s t n0).1=0
   ·obtain⟨nn,rfl,hok,hds⟩:=b4v hz;rw[hds] at hO ⊢;replace hO:OwnS w5 w4.heap.size 3 vz nz (dotS s t nn):=hO;have HOK:=Hd hok;clear hz hds hok;obtain⟨Z,hZ⟩:∃ Z,dotS s t nn=Z:=⟨_,rfl⟩;rw[hZ] at hO;have HZ:=Hd hZ;clear hZ;obtain⟨Az,cz,rfl,hcz,_,_⟩:=hO.form;have HZL:=Hd hO.len;replace H:=Hd (H.addOwn hb5 hO);clear hO hb5;have HRZ:=Hd (show Sh.right Z=true by rw[←HZ.out];exact HOK.rs);have hnz4:nz≤4:=by have:=(Sh.right_iff.1 HRZ).1;have:=HZL.out;omega
    have hnn:nn<n:=by have:=HOK.la;have:=HSL.out;omega
    have hnn2:nn<n2:=by have:=HOK.lb;have:=HTL.out;omega
    go_wp2_with fail
    refine(c2i 0 ((H.ownInts 0 rfl).2.2) ⟨by omega,by omega⟩ HRZ).mono ?_;rintro e4 w4 ⟨⟨u,rfl,hu⟩,hb4⟩;obtain⟨S1,ns,sc,D1,N,dc,rfl,hs1,hd1,hsc,hdc,hNle,h5⟩:=H.addTen hb4 hu;rw[List.length_replicate] at hd1;rw[hd1] at h5;have HN:=Hd hd1;have hN4:N≤4096:=by have:=(Sh.size_bd Z).2;omega
    have h6:=h5.allocBox w4.heap.size 33 [.slice S1 ns sc,.slice D1 N dc] rfl;clear hu hb4 h5 hd1 hs1
    go_upto_region 9 with fail
    generalize w4.alloc (.cells #[.slice S1 ns sc,.slice D1 N dc] 33)=w5 at *;generalize w4.heap.size=gt at *;replace H:=Hd h6;clear h6;obtain⟨tgt,htg⟩:∃ x,dotD s d t k nn=x:=⟨_,rfl⟩;have HTG:=Hd (show tgt.length=N by rw[←htg,b3f,HZ.out];exact HN);have HQ:=Hd htg;clear htg;obtain⟨kk,hK⟩:∃ kk:Nat,n=kk+1:=⟨n-1,by omega⟩;have hw1:IntKind.i64.wrap ((n:Int)-1)=(kk:Int):=by rw[show(n:Int)-1=(kk:Int) by omega];exact IntWalk.i64_in _ ⟨by omega,by omega⟩
    have HK:=Hd hK;have hkn:kk<n:=by omega
    have hnk:nn≤kk:=by omega
    clear hK;obtain⟨pa,y,hpA,_,hy,hcy,hfy⟩:=(H.oldInts 7 rfl).at_ (k:=kk) hkn;subst hpA;have hyb:=(Sh.right_iff.1 (a1p HRT)).2.1 y (mG hy);obtain⟨M,rfl⟩:=eZ hyb.1;have hM32:M≤32:=by omega
    have HM:=Hd (show dotM t nn=M by have hmid:=HOK.mid;have h1:=HSL.out;have h2:=HK.out;rw[show s.length-1=kk by omega,gD,hy] at hmid;rw[dotM,←hmid];rfl);clear hyb hfy hy;have HAT:=Hd (show ∀ i:Nat,i<N→tgt[i]?=some (dotV s d t k nn i M) from fun i hi=>by rw[←HQ.out,dotD,HZ.out,a7l (by have:=HN.out;omega),HM.out]);obtain⟨a0,a1⟩:=H.z2 6 rfl
    go_upto_region 11 with fail
    clear hcy hw1;obtain⟨b0,b1⟩:=H.z2 5 rfl;obtain⟨RW,hRW⟩:∃ RW,Sh.size ((s.drop nn).take (kk-nn))=RW:=⟨_,rfl⟩;obtain⟨CW,hCW⟩:∃ CW,Sh.size (t.drop (nn+1))=CW:=⟨_,rfl⟩;have hcut:=d8z (A:=pa) (n:=n) (c:=c) hnk (by omega:kk≤n) hnc;have hIc:=(H.oldInts 7 rfl).cut (lo:=nn) (hi:=kk) (c:=c) hnk (by omega) hnc;obtain⟨A8,hA8⟩:∃ A8,dropA (some pa) c nn=A8:=⟨_,rfl⟩;rw[hA8] at hcut hIc;obtain⟨A9,hsl,hI9⟩:=b0w ((nn:Int)+1) (k:=nn+1) (by omega) (H.oldInts 9 rfl) (by omega) (by omega) hnc2;have hwk:IntKind.i64.wrap ((nn:Int)+1)=(nn:Int)+1:=IntWalk.i64_in _ ⟨by omega,by omega⟩;have C1:=fun q=>a7b (c:=c-nn) (hIc.drewN q)
    have C2:=fun q=>a7b (c:=c2-(nn+1)) (hI9.drewN q)
    simp only[hRW] at C1;simp only[hCW] at C2;replace C1:=Hd C1;replace C2:=Hd C2;have HRW:=Hd hRW;have HCW:=Hd hCW;clear hRW hCW hIc hI9 hA8
    go_quiet (first|(go_at_call 89;with_reducible exact a3b (C1.out _))|(go_at_call 89;with_reducible exact a3b (C2.out _)))
    clear a0 a1 b0 b1 hcut hsl hwk C1 C2;have hS:=H.drewN nq
    go_upto_region 12 with fail
    replace H:=Hd hS;clear hS;generalize w5.drewN nq=w6 at *;obtain⟨o0,o1⟩:=H.z2 0 rfl
    go_wp2_with fail
    clear o0 o1
    go_loopw [75] (fun kv wr=>∃ i:Nat,kv=.int .i64 i∧i≤N∧Sep w wr [.box gt 33 [.slice S1 ns sc,.slice D1 N dc],.own 3 (.slice S1 ns sc) ns Z,.own 2 (.slice D1 N dc) N (mix tgt (List.replicate N 0) i),.own 3 (.slice Az nz cz) nz Z,.box (w.heap.size+1+1) 33 [.slice none 0 0,.slice none 0 0],.box (w.heap.size+1) 33 [.slice A2 n2 c2,.slice B2 m2 e2],.box w.heap.size 33 [.slice (some pa) n c,.slice B m e],.ints (some pa) n s,.ints B m d,.ints A2 n2 t,.ints B2 m2 k]) (fun kv _=>N - (intOf kv).toNat)
    case atStart=>exact⟨0,rfl,by omega,by rw[a2p];exact H⟩
    case round =>
     clear H;obtain⟨i,rfl,hi,hS⟩:=hrel;have H:=Hd hS;clear hS;by_cases hli:i<N
     ·have hiz:(i:Int)<Sh.size (dotS s t nn):=by have:=HN.out;rw[HZ.out];omega
      obtain⟨hsz1,hsz2,hA0,hB0⟩:=d5o HOK hiz;rw[show s.length-1-nn=kk-nn by have:=HSL.out;have:=HK.out;omega,HRW.out] at hsz1;rw[HCW.out] at hsz2;obtain⟨da,hda⟩:∃ da,dotA s nn=da:=⟨_,rfl⟩;obtain⟨db,hdb⟩:∃ db,dotB t nn=db:=⟨_,rfl⟩;rw[hda] at hsz1 hA0;rw[hdb] at hsz2 hB0;have hq1:(i:Int) / CW=((i / db:Nat):Int):=by rw[hsz2];rfl
      have hq2:(i:Int) % CW=((i % db:Nat):Int):=by rw[hsz2];rfl
      have hq3:((i / db:Nat):Int) / RW=((i / (da*db):Nat):Int):=by rw[hsz1,Nat.mul_comm,←Nat.div_div_eq_div_mul];rfl
      obtain⟨r,hr⟩:∃ r,i / db=r:=⟨_,rfl⟩;obtain⟨cc,hcc⟩:∃ cc,i % db=cc:=⟨_,rfl⟩;obtain⟨q,hq⟩:∃ q,i / (da*db)=q:=⟨_,rfl⟩;have hri:r≤i:=by rw[←hr];exact Nat.div_le_self _ _
      have hci:cc≤i:=by rw[←hcc];exact Nat.mod_le _ _
      have hqi:q≤i:=by rw[←hq];exact Nat.div_le_self _ _
      rw[hr] at hq1 hq3;rw[hcc] at hq2;rw[hq] at hq3;have hCn:¬ CW=0:=by omega
      have hRn:¬ RW=0:=by omega
      have hx1:IntKind.i64.wrap ((i:Int) / CW)=(r:Int):=by rw[hq1];exact IntWalk.i64_in _ ⟨by omega,by omega⟩
      have hx2:IntKind.i64.wrap ((i:Int) % CW)=(cc:Int):=by rw[hq2];exact IntWalk.i64_in _ ⟨by omega,by omega⟩
      have hx3:IntKind.i64.wrap ((r:Int) / RW)=(q:Int):=by rw[hq3];exact IntWalk.i64_in _ ⟨by omega,by omega⟩
      have HDA:=Hd hda;have HDB:=Hd hdb;have HR:=Hd hr;have HC:=Hd hcc;have HQ1:=Hd hq;have HS1:=Hd hsz1;have HC2:=Hd hq2;have HS2:=Hd hsz2;clear hda hdb hr hcc hq hsz1 hsz2 hq1 hq2 hq3;have hCp:0≤CW:=by have:=HS2.out;omega
      have hRp:0≤RW:=by have:=HS1.out;omega
      have hrp:(0:Int)≤r:=by omega
      have hip:(0:Int)≤i:=by omega
      obtain⟨o0,o1⟩:=H.z2 0 rfl;have hli2:decide (i<N)=true:=by simpa using hli
      go_upto_region 15 with fail
      go_quiet (fail)
      have hS:=H.drewN nq
      go_wp2_with fail
      replace H:=Hd hS;clear hS;clear o0 o1
      go_loopw [88] (fun jv wr=>∃ J:Nat,jv=.int .i64 J∧J≤M∧Sep w wr [.box gt 33 [.slice S1 ns sc,.slice D1 N dc],.own 3 (.slice S1 ns sc) ns Z,.own 2 (.slice D1 N dc) N ((mix tgt (List.replicate N 0) i).set i (dotV s d t k nn i J)),.own 3 (.slice Az nz cz) nz Z,.box (w.heap.size+1+1) 33 [.slice none 0 0,.slice none 0 0],.box (w.heap.size+1) 33 [.slice A2 n2 c2,.slice B2 m2 e2],.box w.heap.size 33 [.slice (some pa) n c,.slice B m e],.ints (some pa) n s,.ints B m d,.ints A2 n2 t,.ints B2 m2 k]) (fun jv _=>M - (intOf jv).toNat)
      case atStart=>exact⟨0,rfl,by omega,by rw[show dotV s d t k nn i 0=0 from rfl,a8x (a4o HTG.out hli)];exact H⟩
      case round =>
       clear H;obtain⟨J,rfl,hJ,hS⟩:=hrel;by_cases hlj:J < M
       ·have hlj2:decide (J < M)=true:=by simpa using hlj
        obtain⟨hx,hx4,hx5⟩:=c7o HOK (i:=i) (j:=J) hiz (by rw[HM.out];exact hlj);obtain⟨hy,hy4,hy5⟩:=c8h HOK (i:=i) (j:=J) hiz (by rw[HM.out];exact hlj);obtain⟨K1,q1,g1,_⟩:=c9z HRT hx hx4;obtain⟨K2,q2,g2,_⟩:=c9z HRT2 hy hy4;rw[hx5,HDB.out,HM.out,HR.out] at q1;rw[hy5,HDA.out,HDB.out,HM.out,HQ1.out,HC.out] at q2;have q1:r*M+J=K1:=by omega
        have q2:(q*M+J)*db+cc=K2:=by omega
        clear hx hx4 hx5 hy hy4 hy5;have hk1:K1<m:=by have:=HDL.out;omega
        have hk2:K2<m2:=by have:=HKL.out;omega
        clear g1 g2;obtain⟨rm,hrm⟩:∃ rm,r*M=rm:=⟨_,rfl⟩;obtain⟨qm,hqm⟩:∃ qm,q*M=qm:=⟨_,rfl⟩;obtain⟨qd,hqd⟩:∃ qd,(qm+J)*db=qd:=⟨_,rfl⟩;have hqq:qm+J≤qd:=by rw[←hqd];exact Nat.le_mul_of_pos_right _ hB0
        rw[hrm] at q1;rw[hqm,hqd] at q2;have hy1:IntKind.i64.wrap ((r:Int)*(M:Int))=(rm:Int):=by rw[←Int.natCast_mul,hrm];exact IntWalk.i64_in _ ⟨by omega,by omega⟩
        have hy2:IntKind.i64.wrap ((rm:Int)+(J:Int))=(K1:Int):=by rw[←q1,Int.natCast_add];exact IntWalk.i64_in _ ⟨by omega,by omega⟩
        have hy3:IntKind.i64.wrap ((q:Int)*(M:Int))=(qm:Int):=by rw[←Int.natCast_mul,hqm];exact IntWalk.i64_in _ ⟨by omega,by omega⟩
        obtain⟨qj,hqj⟩:∃ qj,qm+J=qj:=⟨_,rfl⟩;rw[hqj] at hqd hqq;have hy4:IntKind.i64.wrap ((qm:Int)+(J:Int))=(qj:Int):=by rw[←hqj,Int.natCast_add];exact IntWalk.i64_in _ ⟨by omega,by omega⟩
        have hy5:IntKind.i64.wrap ((qj:Int)*CW)=(qd:Int):=by rw[HS2.out,←Int.natCast_mul,hqd];exact IntWalk.i64_in _ ⟨by omega,by omega⟩
        have hy6:IntKind.i64.wrap ((qd:Int)+(i:Int) % CW)=(K2:Int):=by rw[HC2.out,←q2,Int.natCast_add];exact IntWalk.i64_in _ ⟨by omega,by omega⟩
        obtain⟨gb,cb,hv,hO⟩:=(hS.ownS 2 rfl).own (by omega);injection hv with hv1 _ hv3
        subst hv1;subst hv3;clear hO;obtain⟨ga,u,hgA,_,hu,hcu,hfu⟩:=(hS.oldInts 8 rfl).at_ (k:=K1) hk1;subst hgA;obtain⟨gk,v,hgB,_,hv,hcv,hfv⟩:=(hS.oldInts 10 rfl).at_ (k:=K2) hk2;subst hgB;obtain⟨V,hV⟩:∃ V,dotV s d t k nn i J=V:=⟨_,rfl⟩;rw[hV] at hS
        have hst:wrap64 (V+wrap64 (u*v))=dotV s d t k nn i (J+1):=by
         have h0:dotV s d t k nn i (J+1)=wrap64 (dotV s d t k nn i J+dotT d k (dotA s nn) (dotB t nn) (dotM t nn) i J):=rfl;rw[h0,hV,dotT,HDA.out,HDB.out,HM.out,HR.out,HQ1.out,HC.out,hrm,q1,hqm,hqj,hqd,q2,gD,gD,hu,hv];rfl
        have hzv:((mix tgt (List.replicate N 0) i).set i V)[i]?=some V:=by rw[List.getElem?_set_self (by rw[b1p (by rw[HTG.out,List.length_replicate]),List.length_replicate];exact hli)]
        have hcz:=(hS.own 2 rfl).cell hzv;have hff:=(hS.own 2 rfl).frozen i;have h9:=hS.store 2 i (x:=wrap64 (V+wrap64 (u*v))) (a5n _) rfl;rw[show((mix tgt (List.replicate N 0) i).set i V).set i (wrap64 (V+wrap64 (u*v)))=(mix tgt (List.replicate N 0) i).set i (dotV s d t k nn i (J+1)) by rw[List.set_set,hst]] at h9;have HS9:=Hd h9.drew;have H:=Hd hS;obtain⟨o0,o1⟩:=H.z2 0 rfl;obtain⟨a0,a1⟩:=H.z2 6 rfl;obtain⟨b0,b1⟩:=H.z2 5 rfl;have HE:=Hd (And.intro q1 (And.intro q2 (And.intro hu (And.intro hv (And.intro hst (And.intro hzv hV))))));clear hS h9 hst hzv hV hu hv q1 q2 hfu hfv hrm hqm hqd hqj hqq
        go_upto_region 20 with fail
        go_still_tail 30,(by kernel_rfl)
        change wpList _ _ _ _ _ wr.drew;have hz1:wr.drew.cell? ⟨gb,i,none⟩=some (.int .i64 V):=hcz;have hz2:wr.drew.frozen? ⟨gb,i,none⟩=false:=hff;clear o0 o1 a0 a1 b0 b1 hcu hcv hcz hff;go_wp2;go_roundw
        case rel=>exact⟨J+1,by go_num,by omega,HS9⟩
        case measure=>simp[intOf];omega
       ·have hjm:M=J:=by omega
        subst hjm;rw[a3i HTG.out (HAT.out i hli)] at hS;have H:=Hd hS;clear hS;go_wp2;go_roundw
        case rel=>exact⟨i+1,by go_num,by omega,H⟩
        case measure=>simp[intOf];omega
     ·have hin:N=i:=by omega
      subst hin;have hS:=H.out;rw[a4n HTG.out,←HQ.out] at hS;replace H:=Hd hS;clear hS;have HQ3:=Hd (show dotR s d t k nn=(0,Z,dotD s d t k nn) by rw[c8e HBOTH.out HOK.out,HZ.out]);obtain⟨o0,o1⟩:=H.z2 0 rfl;obtain⟨r0,r1,fr0,fr1⟩:=H.b2 4;go_wp2;rw[HQ3.out];exact sY2 ((H.setBox 4 0 (.slice S1 ns sc) rfl).setBox 4 1 (.slice D1 N dc) rfl) 4 1 2 (.int .i64 0) results71
   ·have HX:=Hd (b5b HBOTH hz);obtain⟨E,hE⟩:∃ E,(dsR s t n0).1=E:=⟨_,rfl⟩;rw[hE] at HX hz ⊢;have dE:(E != 0)=true:=by simpa using hz
    replace H:=Hd (H.addOwn hb5 hO);clear hz hO hb5 hE;obtain⟨r0,r1,fr0,fr1⟩:=H.b2 1;go_wp2;rw[HX.out];exact sN2 H 1 E results71
end Go.Proofs.YtjblengklgkgfaaGreat
