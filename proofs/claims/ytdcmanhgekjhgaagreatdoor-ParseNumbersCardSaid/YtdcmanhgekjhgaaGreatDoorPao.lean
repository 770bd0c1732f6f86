import Derived.Test.YtdcmanhgekjhgaaGreatDoorPan
set_option maxRecDepth 100000
set_option maxHeartbeats 12800000
namespace Go.Proofs.YtdcmanhgekjhgaaGreatDoor
open Go.RowKit Go.Proofs.Tryz
variable {A:Option Addr} {base c k n:Nat} {e:TypeId} {w w1:World} {xs:List Int}
theorem b3r (q:Int)(hq:q=(k:Int))(hI:Ints w1 A n xs)(hk:k≤n)(hn:0<n)(hnc:n≤c):∃ A2:Option Addr,(∀ w,(Instr.slice 25 (.slice A n c) (some (.int .i64 q)) none none).run prog w=.ok (.slice A2 (n-k) (c-k)) w)∧Ints w1 A2 (n-k) (xs.drop k):=by
 subst hq;have hu:prog.underlying 25=some (.slice 3):=by kernel_rfl
 have hd:=hI.drop (k:=k) hk hnc;obtain⟨a,rfl,_⟩:=hI.2.2.2 hn;by_cases hc:c=k
 ·refine⟨some a,fun w=>?_,by rwa [iP hc] at hd⟩;subst hc
  go_simp
 ·refine⟨some (a.add k),fun w=>?_,by rwa [iN hc] at hd⟩
  go_simp
def dropA (A:Option Addr) (c k:Nat):Option Addr:=if c=k then A else A.map (·.add k)
theorem Ints.dropA (h:Ints w A n xs)(hk:k≤n)(hc:n≤c):Ints w (dropA A c k) (n-k) (xs.drop k):=h.drop hk hc
theorem d8f (h:OwnS w1 base e (.slice A n c) n xs)(hk:k≤n):∀ w,(Instr.slice 25 (.slice A n c) (some (.int .i64 (k:Int))) none none).run prog w=.ok (.slice (dropA A c k) (n-k) (c-k)) w:=by
 intro w;have hu:prog.underlying 25=some (.slice 3):=by kernel_rfl
 obtain⟨A', c', hv,hnc,hI,_⟩:=h.form;injection hv with _ _ h3
 subst h3;rcases h.1.2 with ⟨hv2,_⟩|⟨g,cap,cur,hv2,_⟩
 ·injection hv2 with h1 h2 h3
  subst h1;subst h2;subst h3;obtain rfl:k=0:=by omega
  go_simp
  rw[dropA,iP rfl]
 ·injection hv2 with h1 _ h3
  subst h1;subst h3;by_cases hc:c=k
  ·subst hc
   go_simp
   rw[dropA,iP rfl]
  ·go_simp
   rw[dropA,iN hc]
theorem c6s (h:OwnS w1 base e (.slice A n c) n xs)(hk:k≤n):∀ w,(Instr.slice 25 (.slice A n c) none (some (.int .i64 (k:Int))) none).run prog w=.ok (.slice A k c) w:=by
 intro w;have hu:prog.underlying 25=some (.slice 3):=by kernel_rfl
 obtain⟨A', c', hv,hnc,hI,_⟩:=h.form;injection hv with _ _ h3
 subst h3;have hkc:k≤c:=by omega
 rcases h.1.2 with ⟨hv2,_⟩|⟨g,cap,cur,hv2,_⟩
 ·injection hv2 with h1 h2 h3
  subst h1;subst h2;subst h3;obtain rfl:k=0:=by omega
  go_simp
 ·injection hv2 with h1 _ h3
  subst h1;subst h3
  go_simp
theorem Sep.emptyAt {w0:World}{l:List a0e}(h:Sep w0 w l)(e:TypeId)(g:Nat)(hg:w.heap.size=g):Sep w0 (w.alloc (.cells #[] e)) (.own e (.slice (some ⟨g,0,none⟩) 0 0) 0 []::l):=by
 subst hg;exact h.empty e
theorem b9b {B:Option Addr}{na ca nb cb:Nat}{a b:List Int}(n:Int)(hA:Ints w A na a)(hB:Ints w B nb b)(ka:na≤ca)(kb:nb≤cb):
  Calls prog 116 #[.slice A na ca,.slice B nb cb,.int .i64 n] w fun e w'=>(∃ v m,e=.returned (.tuple #[v,.int .i64 (dsR a b n).1])∧OwnS w' w.heap.size 3 v m (dsR a b n).2)∧Below w.heap.size w w':=by
 have hla:=hA.len;have hlb:=hB.len;have hlea:=hA.le;have hleb:=hB.le;by_cases h0:n<0
 ·have d0:decide (n<0)=true:=by simpa using h0
  have HX:=Hd (b2g (a:=a) (b:=b) (n:=n) (by omega))
  go_enter func116,ntmps116
  go_wp2;go_ret2;rw[HX.out];exact⟨⟨_,0,rfl,OwnS.nil_ _ _ _⟩,Below.refl _ _⟩
 have d0:decide (n<0)=false:=by simpa using h0
 obtain⟨k,rfl⟩:=eZ (by omega:0≤n);clear h0;by_cases h1:na≤k
 ·have d1:decide (na≤k)=true:=by simpa using h1
  have HX:=Hd (b2g (a:=a) (b:=b) (n:=(k:Int)) (by omega));clear hla hlb
  go_enter func116,ntmps116
  go_wp2;go_ret2;rw[HX.out];exact⟨⟨_,0,rfl,OwnS.nil_ _ _ _⟩,Below.refl _ _⟩
 have d1:decide (na≤k)=false:=by simpa using h1
 by_cases h2:nb≤k
 ·have d2:decide (nb≤k)=true:=by simpa using h2
  have HX:=Hd (b2g (a:=a) (b:=b) (n:=(k:Int)) (by omega));clear hla hlb
  go_enter func116,ntmps116
  go_wp2;go_ret2;rw[HX.out];exact⟨⟨_,0,rfl,OwnS.nil_ _ _ _⟩,Below.refl _ _⟩
 have d2:decide (nb≤k)=false:=by simpa using h2
 have hka:k<na:=by omega
 have hkb:k<nb:=by omega
 clear h1 h2;have HAB:=Hd (show k<a.length∧k<b.length by omega);obtain⟨pa,x,hpA,_,hx,hcx,hfx⟩:=hA.at_ (k:=na-1) (by omega);obtain⟨pb,y,hpB,_,hy,hcy,hfy⟩:=hB.at_ (k:=k) hkb;subst hpA;subst hpB;have HX:=Hd (show a.getD (a.length-1) 0=x by rw[gD,hla,hx];rfl);have HY:=Hd (show b.getD k 0=y by rw[gD,hy];rfl);have HLA:=Hd hla;have HLB:=Hd hlb;have IA:=Hd (hA.take (k:=k) (by omega));have IB:=Hd (hB.take (k:=k) (by omega));have HA:=Hd hA;have HB:=Hd hB;clear hx hy hfx hfy hla hlb hA hB;have hwn:IntKind.i64.wrap ((na:Int)-1)=((na-1:Nat):Int):=by rw[show(na:Int)-1=((na-1:Nat):Int) by omega];exact IntWalk.i64_in _ ⟨by omega,by omega⟩
 cases RA:Sh.right a with
 | false =>
  have C1:=fun q=>a0r (c:=ca) (HA.drewN q)
  simp only[RA] at C1;replace C1:=Hd C1;have HX:=Hd (a5j HAB (by rw[a6d,RA];rfl))
  go_enter func116,ntmps116
  go_upto_region 3 with fail
  go_quiet (first|(go_at_call 48;with_reducible exact a3p (C1.out _)))
  go_wp2;go_ret2;rw[HX.out]
  exact⟨⟨_,0,rfl,OwnS.nil_ _ _ _⟩,(Sep.nil w).drewN _ |>.base⟩
 | true =>
  have C1:=fun q=>a0r (c:=ca) (HA.drewN q)
  simp only[RA] at C1;replace C1:=Hd C1
  cases RB:Sh.right b with
  | false =>
   have C2:=fun q=>a0r (c:=cb) (HB.drewN q)
   simp only[RB] at C2;replace C2:=Hd C2;have HX:=Hd (a5j HAB (by rw[a6d,RA,RB];rfl))
   go_enter func116,ntmps116
   go_upto_region 3 with fail
   go_quiet (first|(go_at_call 48;with_reducible exact a3p (C1.out _))|(go_at_call 48;with_reducible exact a3p (C2.out _)))
   go_wp2;go_ret2;rw[HX.out]
   exact⟨⟨_,0,rfl,OwnS.nil_ _ _ _⟩,(Sep.nil w).drewN _ |>.base⟩
  | true =>
   have C2:=fun q=>a0r (c:=cb) (HB.drewN q)
   simp only[RB] at C2;replace C2:=Hd C2
   cases RP:(a.take k==b.take k) with
   | false =>
    have C3:=fun q=>a5w (c:=ca) (d:=cb) (IA.drewN q) (IB.drewN q)
    simp only[RP] at C3;replace C3:=Hd C3;have HX:=Hd (a5j HAB (by rw[a6d,RA,RB,show decide (a.take k=b.take k)=false from decide_eq_false (by simpa using RP)];rfl))
    go_enter func116,ntmps116
    go_upto_region 3 with fail
    go_quiet (first|(go_at_call 48;with_reducible exact a3p (C1.out _))|(go_at_call 48;with_reducible exact a3p (C2.out _))|(go_at_call 38;with_reducible exact(C3.out _).mono fun _ _ ⟨e,q,h⟩=>⟨e,_,h.trans (World.drewN_drewN _ _ _)⟩))
    go_wp2;go_ret2;rw[HX.out]
    exact⟨⟨_,0,rfl,OwnS.nil_ _ _ _⟩,(Sep.nil w).drewN _ |>.base⟩
   | true =>
    have C3:=fun q=>a5w (c:=ca) (d:=cb) (IA.drewN q) (IB.drewN q)
    simp only[RP] at C3;replace C3:=Hd C3;by_cases hxy:x=y
    ·subst hxy;have HFT:=Hd (show a6d a b k=true from b0z.2 ⟨RA,RB,by simpa using RP,HX.trans HY.symm⟩);have dxx:(x != x)=false:=by simp
     have hna4:na≤4:=by have:=(Sh.right_iff.1 RA).1;have:=HLA.out;omega
     have hnb4:nb≤4:=by have:=(Sh.right_iff.1 RB).1;have:=HLB.out;omega
     go_enter func116,ntmps116
     go_upto_region 3 with fail
     go_quiet (first|(go_at_call 48;with_reducible exact a3p (C1.out _))|(go_at_call 48;with_reducible exact a3p (C2.out _))|(go_at_call 38;with_reducible exact(C3.out _).mono fun _ _ ⟨e,q,h⟩=>⟨e,_,h.trans (World.drewN_drewN _ _ _)⟩))
     go_upto_region 5 with fail
     have H:=Hd ((Sep.nil w).drewN nq).drew;generalize w.drewN nq=w5 at *;clear C3 HY dxx hcx hcy;obtain⟨A2,hsl,hI2⟩:=b3r ((k:Int)+1) (k:=k+1) (by omega) HB (by omega) (by omega) kb;have HI2:=Hd hI2;clear hI2;have hwk:IntKind.i64.wrap ((k:Int)+1)=(k:Int)+1:=IntWalk.i64_in _ ⟨by omega,by omega⟩;have HI1:=Hd (HA.take (k:=na-1) (by omega));have H1:=Hd (H.empty 3);have hca1:na≤ca+1:=by omega
     refine wp_region_held_drew (S:=(fun _=>True)) (by kernel_rfl) ?_ (fun hq_=>?_)
     ·trivial
     refine zV 1 hq_ ?_;refine zV 2 hq_ ?_;refine zV 3 hq_ ?_;refine zV 4 hq_ ?_;refine zV 5 hq_ ?_;refine zV 7 hq_ ?_;refine zV 8 hq_ ?_;refine zV 9 hq_ ?_;refine zV 10 hq_ ?_;refine e1 0 fun K hK=>?_;go_simp;(try go_wp2_with fail);refine zX hK fun hq_=>?_;refine e1 6 fun K hK=>?_;(refine a0k rfl (.tmp 54) (.tmp 59) 25 3 rfl underlying25 Tryz.infoInt H1.out 0 rfl rfl _ (na-1) ca _ rfl (H1.oldI HI1.out) ?_ ?_;(focus omega);intro v2 w2 h2;have H2:=Hd h2;clear h2);refine zX hK fun hq_=>?_;refine e1 11 fun K hK=>?_;(refine a0k rfl (.tmp 60) (.tmp 64) 25 3 rfl underlying25 Tryz.infoInt H2.out 0 rfl rfl _ (nb-(k+1)) (cb-(k+1)) _ rfl (H2.oldI HI2.out) ?_ ?_;(focus omega);intro v3 w3 h3;have H3:=Hd h3;clear h3);refine zX hK fun hq_=>?_;refine zV 12 hq_ ?_;refine dN ?_;have HL:=Hd (show([]++a.take (na-1))++b.drop (k+1)=dotS a b k by rw[dotS,HLA.out,List.nil_append]);rw[HL.out] at H3;obtain⟨nz,hnz⟩:∃ nz,0+(na-1)+(nb-(k+1))=nz:=⟨_,rfl⟩;rw[hnz] at H3;obtain⟨Z,hZ⟩:∃ Z,dotS a b k=Z:=⟨_,rfl⟩;rw[hZ] at H3;obtain⟨A5,c5,hv,_,_,_⟩:=(H3.ownS 0 rfl).form;subst hv;have C5:=a0r (c:=c5) ((H3.ownInts 0 rfl).2.2);clear hsl H1 H2 hwk hnz
     go_wp2_with fail
     cases ho:Sh.right Z with
     | false =>
      rw[ho] at C5;refine C5.mono ?_;rintro e5 w5 ⟨rfl,rfl⟩;have HX:=Hd (b4g HAB HFT (by rw[hZ];exact ho));clear C5 ho hZ;go_wp2;go_ret2;rw[HX.out]
      exact⟨⟨_,0,rfl,OwnS.nil_ _ _ _⟩,H3.base⟩
     | true =>
      rw[ho] at C5;refine C5.mono ?_;rintro e5 w5 ⟨rfl,rfl⟩;have HX:=Hd (d0o HAB HFT (by rw[hZ];exact ho));rw[hZ] at HX;clear C5 ho hZ;go_wp2;go_ret2;rw[HX.out];exact⟨⟨_,_,rfl,H3.ownS 0 rfl⟩,H3.base⟩
    ·have dxy:(x != y)=true:=by simpa using hxy
     have HNE:=Hd hxy;clear hxy;have HX:=Hd (a5j HAB (by rw[a6d,HX.out,HY.out,show decide (x=y)=false from decide_eq_false HNE.out];simp))
     go_enter func116,ntmps116
     go_upto_region 3 with fail
     go_quiet (first|(go_at_call 48;with_reducible exact a3p (C1.out _))|(go_at_call 48;with_reducible exact a3p (C2.out _))|(go_at_call 38;with_reducible exact(C3.out _).mono fun _ _ ⟨e,q,h⟩=>⟨e,_,h.trans (World.drewN_drewN _ _ _)⟩))
     go_wp2;go_ret2;rw[HX.out];exact⟨⟨_,0,rfl,OwnS.nil_ _ _ _⟩,(Sep.nil w).drewN _ |>.base⟩
theorem d3s {v v' : Value}{s d t k:List Int}(n0:Int)(h:Ten w v s d)(g:Ten w v' t k):
  Calls prog 87 #[v,v', .int .i64 n0] w fun e w'=>(∃ u,e=.returned (.tuple #[u,.int .i64 (dotR s d t k n0).1])∧OTen w' w.heap.size u (dotR s d t k n0).2.1 (dotR s d t k n0).2.2)∧Below w.heap.size w w':=by
 obtain⟨A,n,c,B,m,e,rfl,hnc,hme,hI,hJ⟩:=h;obtain⟨A2,n2,c2,B2,m2,e2,rfl,hnc2,hme2,hI2,hJ2⟩:=g;have h1:=((((((Sep.nil w).old hJ2).old hI2).old hJ).old hI).allocBox w.heap.size 89 [.slice A n c,.slice B m e] rfl).allocBox (w.heap.size+1) 89 [.slice A2 n2 c2,.slice B2 m2 e2] (by simp);replace h1:=h1.allocBox (w.heap.size+1+1) 89 [.slice none 0 0,.slice none 0 0] (by simp);have hnle:=hI.le;have hmle:=hJ.le;have HFD:=Hd hJ.fit;have HDL:=Hd hJ.len;have HSL:=Hd hI.len;have hnle2:=hI2.le;have hmle2:=hJ2.le;have HFK:=Hd hJ2.fit;have HKL:=Hd hJ2.len;have HTL:=Hd hI2.len;clear hI hJ hI2 hJ2
 go_enter func87,ntmps87
 go_upto_region 1 with fail
 generalize ((w.alloc (.cells #[.slice A n c,.slice B m e] 89)).alloc (.cells #[.slice A2 n2 c2,.slice B2 m2 e2] 89)).alloc (.cells #[.slice none 0 0,.slice none 0 0] 89)=W at *;have H:=Hd h1;clear h1;obtain⟨a0,a1⟩:=H.z2 2 rfl;obtain⟨b0,b1⟩:=H.z2 1 rfl;have C1:=a2c (a3z (H.oldInts 3 rfl) hnc (H.oldInts 4 rfl) hme)
 go_wp2_with fail
 cases hr:a0b s d with
 | false =>
  rw[hr] at C1;refine C1.mono ?_;rintro e3 w3 ⟨rfl,hb3⟩;replace H:=Hd (H.below hb3);have HX:=Hd (c0w (s:=s) (d:=d) (t:=t) (k:=k) (n:=n0) (by rw[hr];rfl));obtain⟨r0,r1,fr0,fr1⟩:=H.b2 0;clear hb3 hr C1 a0 a1 b0 b1;go_wp2;rw[HX.out]
  exact sN2 H 0 13 results87
 | true =>
  rw[hr] at C1;refine C1.mono ?_;rintro e3 w3 ⟨rfl,hb3⟩;replace H:=Hd (H.below hb3);have HRT:=Hd hr;clear hb3 hr C1 a0 a1 b0 b1;obtain⟨a0,a1⟩:=H.z2 2 rfl;obtain⟨b0,b1⟩:=H.z2 1 rfl;have C2:=a2c (a3z (H.oldInts 5 rfl) hnc2 (H.oldInts 6 rfl) hme2)
  go_wp2_with fail
  cases hr2:a0b t k with
  | false =>
   rw[hr2] at C2;refine C2.mono ?_;rintro e4 w4 ⟨rfl,hb4⟩;replace H:=Hd (H.below hb4);have HX:=Hd (c0w (s:=s) (d:=d) (t:=t) (k:=k) (n:=n0) (by rw[HRT.out,hr2];rfl));obtain⟨r0,r1,fr0,fr1⟩:=H.b2 0;clear hb4 hr2 C2 a0 a1 b0 b1;go_wp2;rw[HX.out]
   exact sN2 H 0 13 results87
  | true =>
   rw[hr2] at C2;refine C2.mono ?_;rintro e4 w4 ⟨rfl,hb4⟩;replace H:=Hd (H.below hb4);have HRT2:=Hd hr2;clear hb4 hr2 C2 a0 a1 b0 b1;have hn4:n≤4:=by have:=(a3c HRT).1;have:=HSL.out;omega
   have hn42:n2≤4:=by have:=(a3c HRT2).1;have:=HTL.out;omega
   obtain⟨a0,a1⟩:=H.z2 2 rfl;obtain⟨b0,b1⟩:=H.z2 1 rfl;have C3:=b9b (ca:=c) (cb:=c2) n0 (H.oldInts 3 rfl) (H.oldInts 5 rfl) hnc hnc2;have HBOTH:=Hd (show(a0b s d&&a0b t k)=true by rw[HRT.out,HRT2.out];rfl)
   go_wp2_with fail
   refine C3.mono ?_;rintro e5 w5 ⟨⟨vz,nz,rfl,hO⟩,hb5⟩;clear C3 a0 a1 b0 b1;by_cases hz:(dsR s t n0).1=0
   ·obtain⟨nn,rfl,hok,hds⟩:=c2s hz;rw[hds] at hO ⊢;replace hO:OwnS w5 w4.heap.size 3 vz nz (dotS s t nn):=hO;have HOK:=Hd hok;clear hz hds hok;obtain⟨Z,hZ⟩:∃ Z,dotS s t nn=Z:=⟨_,rfl⟩;rw[hZ] at hO;have HZ:=Hd hZ;clear hZ;obtain⟨Az,cz,rfl,hcz,_,_⟩:=hO.form;have HZL:=Hd hO.len;replace H:=Hd (H.addOwn hb5 hO);clear hO hb5;have HRZ:=Hd (show Sh.right Z=true by rw[←HZ.out];exact HOK.rs);have hnz4:nz≤4:=by have:=(Sh.right_iff.1 HRZ).1;have:=HZL.out;omega
    have hnn:nn<n:=by have:=HOK.la;have:=HSL.out;omega
    have hnn2:nn<n2:=by have:=HOK.lb;have:=HTL.out;omega
    go_wp2_with fail
    refine(a1t 0 ((H.ownInts 0 rfl).2.2) (by omega) ⟨by omega,by omega⟩).mono ?_;rintro e4 w4 ⟨⟨u,rfl,hu⟩,hb4⟩;obtain⟨S1,ns,sc,D1,N,dc,rfl,hs1,hd1,hsc,hdc,hNle,h5⟩:=H.addTen hb4 hu;rw[List.length_replicate] at hd1;rw[hd1] at h5;have HN:=Hd hd1;have h6:=h5.allocBox w4.heap.size 89 [.slice S1 ns sc,.slice D1 N dc] rfl;clear hu hb4 h5 hd1 hs1
    go_upto_region 7 with fail
    generalize w4.alloc (.cells #[.slice S1 ns sc,.slice D1 N dc] 89)=w5 at *;generalize w4.heap.size=gt at *;replace H:=Hd h6;clear h6;obtain⟨tgt,htg⟩:∃ x,dotD s d t k nn=x:=⟨_,rfl⟩;have HTG:=Hd (show tgt.length=N by rw[←htg,c8c,HZ.out];exact HN);have HQ:=Hd htg;clear htg;obtain⟨pa,y,hpA,_,hy,hcy,hfy⟩:=(H.oldInts 9 rfl).at_ (k:=nn) hnn2;subst hpA;have hyb:=(Sh.right_iff.1 (a3o HRT2)).2.1 y (mG hy);obtain⟨M,rfl⟩:=eZ hyb.1;have HM:=Hd (show dotM t nn=M by rw[dotM,gD,hy];rfl);have HY:=Hd hy;clear hcy hfy hy;have HAT:=Hd (show ∀ i:Nat,i<N→tgt[i]?=some (dotV s d t k nn i M) from fun i hi=>by rw[←HQ.out,dotD,HZ.out,b3a (by have:=HN.out;omega),HM.out]);obtain⟨kk,hK⟩:∃ kk:Nat,n=kk+1:=⟨n-1,by omega⟩;have hw1:IntKind.i64.wrap ((n:Int)-1)=(kk:Int):=by rw[show(n:Int)-1=(kk:Int) by omega];exact IntWalk.i64_in _ ⟨by omega,by omega⟩
    have HK:=Hd hK;clear hK;obtain⟨a0,a1⟩:=H.z2 6 rfl;obtain⟨o0,o1⟩:=H.z2 0 rfl
    go_wp2_with fail
    clear a0 a1 o0 o1 hw1
    go_loopw [48] (fun kv wr=>∃ i:Nat,kv=.int .i64 i∧i≤N∧Sep w wr [.box gt 89 [.slice S1 ns sc,.slice D1 N dc],.own 3 (.slice S1 ns sc) ns Z,.own 2 (.slice D1 N dc) N (mix tgt (List.replicate N 0) i),.own 3 (.slice Az nz cz) nz Z,.box (w.heap.size+1+1) 89 [.slice none 0 0,.slice none 0 0],.box (w.heap.size+1) 89 [.slice (some pa) n2 c2,.slice B2 m2 e2],.box w.heap.size 89 [.slice A n c,.slice B m e],.ints A n s,.ints B m d,.ints (some pa) n2 t,.ints B2 m2 k]) (fun kv _=>N - (intOf kv).toNat)
    case atStart=>exact⟨0,rfl,by omega,by rw[a4v];exact H⟩
    case round =>
     clear H;obtain⟨i,rfl,hi,hS⟩:=hrel;have H:=Hd hS;clear hS;by_cases hli:i<N
     ·have hiz:(i:Int)<Sh.size Z:=by have:=HN.out;omega
      have hd3:decide (i<N)=true:=by simpa using hli
      obtain⟨w9,rfl⟩:∃ w9:World,w9=wr:=⟨_,rfl⟩
      go_wp2_with fail
      refine(a3l i ((H.ownInts 3 rfl).2.2) ⟨by omega,by omega⟩).mono ?_;rintro e7 w7 ⟨⟨v7,n7,rfl,hO⟩,hb7⟩;obtain⟨A7,c7,rfl,hc7,_,_⟩:=hO.form;have hp7:nz=n7:=by have:=hO.len;have h2:=(a1q hiz).2.1;have:=HZL.out;omega
      subst hp7;have HNZ:=Hd (show nz=n-1+(n2-(nn+1)) by have h3:=HZL.out;rw[←HZ.out,dotS,List.length_append,List.length_take,List.length_drop] at h3;have:=HSL.out;have:=HTL.out;omega);obtain⟨P,hP⟩:∃ P,Sh.placeOf Z i=P:=⟨_,rfl⟩;rw[hP] at hO;have HP:=Hd hP;replace H:=Hd (H.addOwn hb7 hO);clear hO hb7 hP;obtain⟨b0,b1⟩:=H.z2 6 rfl
      go_wp2_with fail
      clear b0 b1
      go_loopw [14] (fun jv wr=>∃ J:Nat,jv=.int .i64 J∧J≤M∧Sep w wr [.own 3 (.slice A7 nz c7) nz P,.box gt 89 [.slice S1 ns sc,.slice D1 N dc],.own 3 (.slice S1 ns sc) ns Z,.own 2 (.slice D1 N dc) N ((mix tgt (List.replicate N 0) i).set i (dotV s d t k nn i J)),.own 3 (.slice Az nz cz) nz Z,.box (w.heap.size+1+1) 89 [.slice none 0 0,.slice none 0 0],.box (w.heap.size+1) 89 [.slice (some pa) n2 c2,.slice B2 m2 e2],.box w.heap.size 89 [.slice A n c,.slice B m e],.ints A n s,.ints B m d,.ints (some pa) n2 t,.ints B2 m2 k]) (fun jv _=>M - (intOf jv).toNat)
      case atStart=>exact⟨0,rfl,by omega,by rw[show dotV s d t k nn i 0=0 from rfl,b9o (a8e HTG.out hli)];exact H⟩
      case round =>
       clear H;obtain⟨J,rfl,hJ,hS⟩:=hrel;have H:=Hd hS;clear hS;obtain⟨b0,b1⟩:=H.z2 6 rfl;have hcy:=(H.oldInts 10 rfl).get HY;by_cases hlj:J < M
       ·have hKz:kk≤nz:=by have:=HK.out;have:=HNZ.out;omega
        have hnz2:nn≤nz:=by have:=HK.out;have:=HNZ.out;omega
        go_upto_region 15 with fail
        have ht1:=c6s (H.ownS 0 rfl) hKz;have HI1:=Hd ((H.ownInts 0 rfl).2.2.take hKz);have G0:=Hd (H.empty 3);clear b0 b1 hcy
        go_wp2_with (at_builtin;refine a0g rfl (.tmp 63) (.tmp 66) 25 3 rfl underlying25 Tryz.infoInt G0.out 0 rfl rfl A7 kk c7 (P.take kk) rfl ((G0.out.ownInts 1 rfl).2.2.take hKz) ?c1 ?_)
        case c1=>omega
        intro v1 w1 h1;have G1:=Hd h1;clear h1
        go_wp2_with (at_builtin;refine a0o rfl (.tmp 67) (.tmp 69) 25 3 rfl underlying25 Tryz.infoInt G1.out 0 rfl rfl (J:Int) ⟨by omega,by omega⟩ _ rfl ?c1 ?_)
        case c1=>omega
        intro v2 w2 h2;rw[show kk+1=n from HK.symm] at h2;replace h2:Sep w w2 (_::_):=h2;obtain⟨X,hX⟩:∃ X,P.take kk++[(J:Int)]=X:=⟨_,rfl⟩;rw[hX] at h2;have HX:=Hd hX;obtain⟨Ax,cx,hv,_,_,_⟩:=(h2.ownS 0 rfl).form;subst hv;have G2:=Hd h2;clear h2 hX H G0 G1 ht1 HI1
        go_upto_region 16 with fail
        go_cut [16] (fun u wx=>∃(Ay:Option Addr) (cy:Nat),u=.slice Ay n2 cy∧Sep w wx [.own 3 (.slice Ay n2 cy) n2 (P.take nn++[(J:Int)]++P.drop kk),.own 3 (.slice Ax n cx) n X,.own 3 (.slice A7 nz c7) nz P,.box gt 89 [.slice S1 ns sc,.slice D1 N dc],.own 3 (.slice S1 ns sc) ns Z,.own 2 (.slice D1 N dc) N ((mix tgt (List.replicate N 0) i).set i (dotV s d t k nn i J)),.own 3 (.slice Az nz cz) nz Z,.box (w.heap.size+1+1) 89 [.slice none 0 0,.slice none 0 0],.box (w.heap.size+1) 89 [.slice (some pa) n2 c2,.slice B2 m2 e2],.box w.heap.size 89 [.slice A n c,.slice B m e],.ints A n s,.ints B m d,.ints (some pa) n2 t,.ints B2 m2 k])
        case first =>
         have ht2:=c6s (G2.ownS 1 rfl) hnz2;have hd8:=d8f (G2.ownS 1 rfl) hKz;have hc78:=(G2.ownInts 1 rfl).2.1;obtain⟨A8,hA8⟩:∃ A8,dropA A7 c7 kk=A8:=⟨_,rfl⟩;rw[hA8] at hd8;have HA8:=Hd hA8;clear hA8;have H0:=Hd G2.drew;have HCT:=Hd (show 0+nn+1+(nz-kk)=n2 by have:=HK.out;have:=HNZ.out;omega);refine wp_region_held_drew (S:=(fun _=>True)) (by kernel_rfl) ?_ (fun hq_=>?_)
         ·trivial
         refine zV 1 hq_ ?_;refine zV 2 hq_ ?_;refine zV 3 hq_ ?_;refine zV 5 hq_ ?_;refine zV 8 hq_ ?_;refine zV 9 hq_ ?_;refine zV 10 hq_ ?_;refine rB2 0 6 (fun K hK=>?_) fun K hK=>?_
         ·go_simp
          (try go_wp2_with fail);refine zX hK fun hq_=>?_;refine rB2 4 6 (fun K hK=>?_) fun K hK=>?_
          ·(have Ge:=Hd (H0.empty 3);refine a0k rfl (.tmp 71) (.tmp 74) 25 3 rfl underlying25 Tryz.infoInt Ge.out 0 rfl rfl A7 nn c7 _ rfl ((Ge.ownInts 2 rfl).2.2.take hnz2) ?_ ?_;(focus omega);intro y1 z1 h5;have G4:=Hd h5;clear h5)
           refine zX hK fun hq_=>?_;refine e1 6 fun K hK=>?_;go_simp;(try go_wp2_with fail);refine zX hK fun hq_=>?_;refine e1 7 fun K hK=>?_;(refine a0n rfl (.tmp 75) (.tmp 77) 25 3 rfl underlying25 Tryz.infoInt G4.out 0 rfl rfl (J:Int) ⟨by omega,by omega⟩ _ rfl ?_ ?_;(focus omega);intro y2 z2 h5;have G5:=Hd h5;clear h5);refine zX hK fun hq_=>?_;refine e1 11 fun K hK=>?_;(refine a0k rfl (.tmp 78) (.tmp 81) 25 3 rfl underlying25 Tryz.infoInt G5.out 0 rfl rfl A8 (nz-kk) (c7-kk) _ rfl (HA8.out ▸ (G5.ownInts 2 rfl).2.2.dropA hKz hc78) ?_ ?_;(focus omega);intro y3 z3 h5;have G6:=Hd h5;clear h5);refine zX hK fun hq_=>?_;refine zV 12 hq_ ?_;refine dN ?_
           go_wp2_with fail
           obtain⟨Ay,cy,hv,_,_,_⟩:=(G6.ownS 0 rfl).form;subst hv;go_meet;exact⟨Ay,cy,by rw[HCT.out],G6.recast (by first|(simp only[HCT.out,List.nil_append];done)|simp only[List.set_cons_zero,HCT.out,List.nil_append])⟩
          ·go_simp
           (try go_wp2_with fail);refine zX hK fun hq_=>?_;refine e1 4 fun K hK=>?_;(have Ge:=Hd ((H0.empty 3).lit 3 #[.int .i64 (J:Int)] [(J:Int)] 1 (w2.heap.size+1) (by rw[a1v];rfl) rfl (by simp[a1e];omega));refine a0k rfl (.tmp 71) (.tmp 74) 25 3 rfl underlying25 Tryz.infoInt Ge.out 1 rfl rfl A7 nn c7 _ rfl ((Ge.ownInts 3 rfl).2.2.take hnz2) ?_ ?_;(focus omega);intro y1 z1 h5;have G4:=Hd h5;clear h5);refine zX hK fun hq_=>?_;refine e1 7 fun K hK=>?_;(refine a0k rfl (.tmp 75) (.tmp 77) 25 3 rfl underlying25 Tryz.infoInt G4.out 1 rfl rfl _ 1 1 [(J:Int)] rfl ((G4.ownInts 0 rfl).2.2) ?_ ?_;(focus omega);intro y2 z2 h5;have G5:=Hd h5;clear h5);refine zX hK fun hq_=>?_;refine e1 11 fun K hK=>?_;(refine a0k rfl (.tmp 78) (.tmp 81) 25 3 rfl underlying25 Tryz.infoInt G5.out 1 rfl rfl A8 (nz-kk) (c7-kk) _ rfl (HA8.out ▸ (G5.ownInts 3 rfl).2.2.dropA hKz hc78) ?_ ?_;(focus omega);intro y3 z3 h5;have h6:=h5.sub (l':=.own 3 y3 (0+nn+1+(nz-kk)) ([]++P.take nn++[(J:Int)]++P.drop kk)::[.own 3 (.slice Ax n cx) n X,.own 3 (.slice A7 nz c7) nz P,.box gt 89 [.slice S1 ns sc,.slice D1 N dc],.own 3 (.slice S1 ns sc) ns Z,.own 2 (.slice D1 N dc) N ((mix tgt (List.replicate N 0) i).set i (dotV s d t k nn i J)),.own 3 (.slice Az nz cz) nz Z,.box (w.heap.size+1+1) 89 [.slice none 0 0,.slice none 0 0],.box (w.heap.size+1) 89 [.slice (some pa) n2 c2,.slice B2 m2 e2],.box w.heap.size 89 [.slice A n c,.slice B m e],.ints A n s,.ints B m d,.ints (some pa) n2 t,.ints B2 m2 k]) [1,2,3,4,5,6,7,8,9,10,11,12,13,14] rfl (by decide);have G6:=Hd h6;clear h5 h6);refine zX hK fun hq_=>?_;refine zV 12 hq_ ?_;refine dN ?_
           go_wp2_with fail
           obtain⟨Ay,cy,hv,_,_,_⟩:=(G6.ownS 0 rfl).form;subst hv;go_meet;exact⟨Ay,cy,by rw[HCT.out],G6.recast (by first|(simp only[HCT.out,List.nil_append];done)|simp only[List.set_cons_zero,HCT.out,List.nil_append])⟩
         ·go_simp
          (try go_wp2_with fail);refine zX hK fun hq_=>?_;refine e1 0 fun K hK=>?_;go_simp;(try go_wp2_with fail);refine zX hK fun hq_=>?_;refine e1 4 fun K hK=>?_;(have Ge:=Hd ((H0.lit 3 #[.int .i64 (J:Int)] [(J:Int)] 1 w2.heap.size rfl rfl (by simp[a1e];omega)).emptyAt 3 (w2.heap.size+1) (by rw[a1v];rfl));refine a0k rfl (.tmp 71) (.tmp 74) 25 3 rfl underlying25 Tryz.infoInt Ge.out 0 rfl rfl A7 nn c7 _ rfl ((Ge.ownInts 3 rfl).2.2.take hnz2) ?_ ?_;(focus omega);intro y1 z1 h5;have G4:=Hd h5;clear h5);refine zX hK fun hq_=>?_;refine e1 7 fun K hK=>?_;(refine a0k rfl (.tmp 75) (.tmp 77) 25 3 rfl underlying25 Tryz.infoInt G4.out 0 rfl rfl _ 1 1 [(J:Int)] rfl ((G4.ownInts 1 rfl).2.2) ?_ ?_;(focus omega);intro y2 z2 h5;have G5:=Hd h5;clear h5);refine zX hK fun hq_=>?_;refine e1 11 fun K hK=>?_;(refine a0k rfl (.tmp 78) (.tmp 81) 25 3 rfl underlying25 Tryz.infoInt G5.out 0 rfl rfl A8 (nz-kk) (c7-kk) _ rfl (HA8.out ▸ (G5.ownInts 3 rfl).2.2.dropA hKz hc78) ?_ ?_;(focus omega);intro y3 z3 h5;have h6:=h5.sub (l':=.own 3 y3 (0+nn+1+(nz-kk)) ([]++P.take nn++[(J:Int)]++P.drop kk)::[.own 3 (.slice Ax n cx) n X,.own 3 (.slice A7 nz c7) nz P,.box gt 89 [.slice S1 ns sc,.slice D1 N dc],.own 3 (.slice S1 ns sc) ns Z,.own 2 (.slice D1 N dc) N ((mix tgt (List.replicate N 0) i).set i (dotV s d t k nn i J)),.own 3 (.slice Az nz cz) nz Z,.box (w.heap.size+1+1) 89 [.slice none 0 0,.slice none 0 0],.box (w.heap.size+1) 89 [.slice (some pa) n2 c2,.slice B2 m2 e2],.box w.heap.size 89 [.slice A n c,.slice B m e],.ints A n s,.ints B m d,.ints (some pa) n2 t,.ints B2 m2 k]) [0,2,3,4,5,6,7,8,9,10,11,12,13,14] rfl (by decide);have G6:=Hd h6;clear h5 h6);refine zX hK fun hq_=>?_;refine zV 12 hq_ ?_;refine dN ?_
          go_wp2_with fail
          obtain⟨Ay,cy,hv,_,_,_⟩:=(G6.ownS 0 rfl).form;subst hv;go_meet;exact⟨Ay,cy,by rw[HCT.out],G6.recast (by first|(simp only[HCT.out,List.nil_append];done)|simp only[List.set_cons_zero,HCT.out,List.nil_append])⟩
        case rest =>
         obtain⟨Ay,cy,rfl,hS⟩:=hcut;have H:=Hd hS;clear hS G2;have HSK:=Hd (show s.length-1=kk by have:=HK.out;have:=HSL.out;omega);have hx:=d5k HOK (i:=i) (j:=J) (by rw[HZ.out];exact hiz) (by rw[HM.out];exact hlj);have hy:=d5j HOK (i:=i) (j:=J) (by rw[HZ.out];exact hiz) (by rw[HM.out];exact hlj);have hst:=d5i (d:=d) (k:=k) HOK (i:=i) (j:=J) (by rw[HZ.out];exact hiz) (by rw[HM.out];exact hlj);rw[HZ.out,HP.out,HSK.out] at hx hy hst;rw[HX.out] at hx hst;obtain⟨Y,hY⟩:∃ Y,P.take nn++[(J:Int)]++P.drop kk=Y:=⟨_,rfl⟩;have hS:=H.out;rw[hY] at hy hst hS;replace H:=Hd hS;clear hS hY;obtain⟨hx1,hx2,_⟩:=hx;obtain⟨hy1,hy2,_⟩:=hy;obtain⟨gb,cb,hv,hO⟩:=(H.ownS 5 rfl).own (by omega);injection hv with hv1 _ hv3
         subst hv1;subst hv3;clear hO;obtain⟨u,hu⟩:∃ u,num s d X=u:=⟨_,rfl⟩;obtain⟨v,hv⟩:∃ v,num t k Y=v:=⟨_,rfl⟩;obtain⟨V,hV⟩:∃ V,dotV s d t k nn i J=V:=⟨_,rfl⟩;rw[hu,hv,hV] at hst;have hS:=H.out;rw[hV] at hS;replace H:=Hd hS;clear hS hV;have HST:=Hd (show((mix tgt (List.replicate N 0) i).set i V).set i (wrap64 (V+wrap64 (u*v)))=(mix tgt (List.replicate N 0) i).set i (dotV s d t k nn i (J+1)) by rw[List.set_set,hst]);have HZV:=Hd (show((mix tgt (List.replicate N 0) i).set i V)[i]?=some V by rw[List.getElem?_set_self (by rw[c1l (by rw[HTG.out,List.length_replicate]),List.length_replicate];exact hli)]);have H0:=Hd H.drew;clear hst;have CX:=a2l (c:=cx) (a3z (H0.oldInts 10 rfl) hnc (H0.oldInts 11 rfl) hme) (H0.ownInts 1 rfl).2.2 HRT hx1 hx2;rw[hu] at CX;have HV:=Hd hv;have HY12:=Hd (And.intro hy1 hy2);clear hu hv hx1 hx2 hy1 hy2
         go_upto_region 17 with fail
         have i0:=H0.c 3 1;obtain⟨i1,i2⟩:=H0.z2 9 rfl;obtain⟨i3,i4⟩:=H0.z2 8 rfl;refine wp_region_held_drew (S:=(fun w'=>w'.cell? ⟨gt,1,none⟩=some (.slice (some ⟨gb,0,none⟩) N dc)∧w'.cell? ⟨w.heap.size,0,none⟩=some (.slice A n c)∧w'.cell? ⟨w.heap.size,1,none⟩=some (.slice B m e)∧w'.cell? ⟨w.heap.size+1,0,none⟩=some (.slice (some pa) n2 c2)∧w'.cell? ⟨w.heap.size+1,1,none⟩=some (.slice B2 m2 e2))) (by kernel_rfl) ?_ (fun hq_=>?_)
         ·exact⟨i0,i1,i2,i3,i4⟩
         refine zV 0 hq_ ?_;refine zV 1 hq_ ?_;refine zV 2 hq_ ?_;refine zV 3 hq_ ?_;refine zV 4 hq_ ?_;refine zV 5 hq_ ?_;refine zV 6 hq_ ?_;refine zV 8 hq_ ?_;refine zV 9 hq_ ?_;refine zV 11 hq_ ?_;refine zV 12 hq_ ?_;refine rB2 7 10 (fun K hK=>?_) fun K hK=>?_
         ·(have hcz:=(H0.own 5 rfl).cell HZV)
          go_simp;(try go_wp2_with fail);refine zX hK fun hq_=>?_;refine e1 10 fun K hK=>?_
          first|(refine effU ?_ ?_;(focus rfl))|(go_simp;(go_at_call 114;refine CX.mono ?_;rintro e6 x1 ⟨rfl,hb1⟩;have H1:=Hd (H0.below hb1);have cm0:=H1.c 3 1;obtain⟨cm1,cm2⟩:=H1.z2 9 rfl;obtain⟨cm3,cm4⟩:=H1.z2 8 rfl;clear hb1);go_wp2_with fail)
          refine zX hK (fun hq_=>?_) ⟨cm0,cm1,cm2,cm3,cm4⟩;refine e1 13 fun K hK=>?_
          first|(refine effU ?_ ?_;(focus rfl))|(go_simp;(go_at_call 114;refine(a2l (c:=cy) (a3z (H1.oldInts 12 rfl) hnc2 (H1.oldInts 13 rfl) hme2) (H1.ownInts 0 rfl).2.2 HRT2 HY12.out.1 HY12.out.2).mono ?_;rw[HV.out];rintro e8 x2 ⟨rfl,hb2⟩;have H2:=Hd (H1.below hb2);have cr0:=H2.c 3 1;obtain⟨cr1,cr2⟩:=H2.z2 9 rfl;obtain⟨cr3,cr4⟩:=H2.z2 8 rfl;clear hb2);go_wp2_with fail)
          refine zX hK (fun hq_=>?_) ⟨cr0,cr1,cr2,cr3,cr4⟩;refine zV 14 hq_ ?_;refine zV 15 hq_ ?_;refine zV 16 hq_ ?_;refine e1 17 fun K hK=>?_;(have hcs:=(H2.own 5 rfl).cell HZV;have hfs:=(H2.own 5 rfl).frozen i;have h9:=H2.store 5 i (x:=IntKind.i64.wrap (V+IntKind.i64.wrap (u*v))) (by rw[IntWalk.i64_left];exact a2h _) rfl;have HS8:=Hd h9;rw[IntWalk.i64_left,IntWalk.i64_left,HST.out] at h9;have HS9:=Hd h9;clear h9;have cg0:=HS8.c 3 1;obtain⟨cg1,cg2⟩:=HS8.z2 9 rfl;obtain⟨cg3,cg4⟩:=HS8.z2 8 rfl);go_simp;(try go_wp2_with fail);refine zX hK (fun hq_=>?_) ⟨cg0,cg1,cg2,cg3,cg4⟩;refine dN ?_;go_wp2;go_roundw
          case rel=>exact⟨J+1,by go_num,by omega,HS9.sub [2,3,4,5,6,7,8,9,10,11,12,13] rfl (by decide)⟩
          case measure=>simp[intOf];omega
         ·first|(refine effU ?_ ?_;(focus rfl))|(go_simp;(go_at_call 114;refine CX.mono ?_;rintro e6 x1 ⟨rfl,hb1⟩;have H1:=Hd (H0.below hb1);have cm0:=H1.c 3 1;obtain⟨cm1,cm2⟩:=H1.z2 9 rfl;obtain⟨cm3,cm4⟩:=H1.z2 8 rfl;clear hb1);go_wp2_with fail)
          refine zX hK (fun hq_=>?_) ⟨cm0,cm1,cm2,cm3,cm4⟩;refine rB2 7 13 (fun K hK=>?_) fun K hK=>?_
          ·(have hcz:=(H1.own 5 rfl).cell HZV)
           go_simp;(try go_wp2_with fail);refine zX hK fun hq_=>?_;refine e1 13 fun K hK=>?_
           first|(refine effU ?_ ?_;(focus rfl))|(go_simp;(go_at_call 114;refine(a2l (c:=cy) (a3z (H1.oldInts 12 rfl) hnc2 (H1.oldInts 13 rfl) hme2) (H1.ownInts 0 rfl).2.2 HRT2 HY12.out.1 HY12.out.2).mono ?_;rw[HV.out];rintro e8 x2 ⟨rfl,hb2⟩;have H2:=Hd (H1.below hb2);have cr0:=H2.c 3 1;obtain⟨cr1,cr2⟩:=H2.z2 9 rfl;obtain⟨cr3,cr4⟩:=H2.z2 8 rfl;clear hb2);go_wp2_with fail)
           refine zX hK (fun hq_=>?_) ⟨cr0,cr1,cr2,cr3,cr4⟩;refine zV 14 hq_ ?_;refine zV 15 hq_ ?_;refine zV 16 hq_ ?_;refine e1 17 fun K hK=>?_;(have hcs:=(H2.own 5 rfl).cell HZV;have hfs:=(H2.own 5 rfl).frozen i;have h9:=H2.store 5 i (x:=IntKind.i64.wrap (V+IntKind.i64.wrap (u*v))) (by rw[IntWalk.i64_left];exact a2h _) rfl;have HS8:=Hd h9;rw[IntWalk.i64_left,IntWalk.i64_left,HST.out] at h9;have HS9:=Hd h9;clear h9;have cg0:=HS8.c 3 1;obtain⟨cg1,cg2⟩:=HS8.z2 9 rfl;obtain⟨cg3,cg4⟩:=HS8.z2 8 rfl);go_simp;(try go_wp2_with fail);refine zX hK (fun hq_=>?_) ⟨cg0,cg1,cg2,cg3,cg4⟩;refine dN ?_;go_wp2;go_roundw
           case rel=>exact⟨J+1,by go_num,by omega,HS9.sub [2,3,4,5,6,7,8,9,10,11,12,13] rfl (by decide)⟩
           case measure=>simp[intOf];omega
          ·first|(refine effU ?_ ?_;(focus rfl))|(go_simp;(go_at_call 114;refine(a2l (c:=cy) (a3z (H1.oldInts 12 rfl) hnc2 (H1.oldInts 13 rfl) hme2) (H1.ownInts 0 rfl).2.2 HRT2 HY12.out.1 HY12.out.2).mono ?_;rw[HV.out];rintro e8 x2 ⟨rfl,hb2⟩;have H2:=Hd (H1.below hb2);have cr0:=H2.c 3 1;obtain⟨cr1,cr2⟩:=H2.z2 9 rfl;obtain⟨cr3,cr4⟩:=H2.z2 8 rfl;clear hb2);go_wp2_with fail)
           refine zX hK (fun hq_=>?_) ⟨cr0,cr1,cr2,cr3,cr4⟩;refine zV 14 hq_ ?_;refine e1 7 fun K hK=>?_;(have hcz:=(H2.own 5 rfl).cell HZV);go_simp;(try go_wp2_with fail);refine zX hK fun hq_=>?_;refine zV 15 hq_ ?_;refine zV 16 hq_ ?_;refine e1 17 fun K hK=>?_;(have hcs:=(H2.own 5 rfl).cell HZV;have hfs:=(H2.own 5 rfl).frozen i;have h9:=H2.store 5 i (x:=IntKind.i64.wrap (V+IntKind.i64.wrap (u*v))) (by rw[IntWalk.i64_left];exact a2h _) rfl;have HS8:=Hd h9;rw[IntWalk.i64_left,IntWalk.i64_left,HST.out] at h9;have HS9:=Hd h9;clear h9;have cg0:=HS8.c 3 1;obtain⟨cg1,cg2⟩:=HS8.z2 9 rfl;obtain⟨cg3,cg4⟩:=HS8.z2 8 rfl);go_simp;(try go_wp2_with fail);refine zX hK (fun hq_=>?_) ⟨cg0,cg1,cg2,cg3,cg4⟩;refine dN ?_;go_wp2;go_roundw
           case rel=>exact⟨J+1,by go_num,by omega,HS9.sub [2,3,4,5,6,7,8,9,10,11,12,13] rfl (by decide)⟩
           case measure=>simp[intOf];omega
       ·have hjm:M=J:=by omega
        subst hjm;have hS:=H.out;rw[a5n HTG.out (HAT.out i hli)] at hS;replace H:=Hd hS;clear hS;go_wp2;go_roundw
        case rel=>exact⟨i+1,by go_num,by omega,H.sub [1,2,3,4,5,6,7,8,9,10,11] rfl (by decide)⟩
        case measure=>simp[intOf];omega
     ·have hin:N=i:=by omega
      subst hin;have hS:=H.out;rw[a8d HTG.out,←HQ.out] at hS;replace H:=Hd hS;clear hS;have HQ3:=Hd (show dotR s d t k nn=(0,Z,dotD s d t k nn) by rw[d5h HBOTH.out HOK.out,HZ.out]);obtain⟨o0,o1⟩:=H.z2 0 rfl;obtain⟨r0,r1,fr0,fr1⟩:=H.b2 4;go_wp2;rw[HQ3.out];exact sY2 ((H.setBox 4 0 (.slice S1 ns sc) rfl).setBox 4 1 (.slice D1 N dc) rfl) 4 1 2 (.int .i64 0) results87
   ·have HX:=Hd (c0x HBOTH hz);obtain⟨E,hE⟩:∃ E,(dsR s t n0).1=E:=⟨_,rfl⟩;rw[hE] at HX hz ⊢;have dE:(E != 0)=true:=by simpa using hz
    replace H:=Hd (H.addOwn hb5 hO);clear hz hO hb5 hE;obtain⟨r0,r1,fr0,fr1⟩:=H.b2 1;go_wp2;rw[HX.out];exact sN2 H 1 E results87
end Go.Proofs.YtdcmanhgekjhgaaGreatDoor
