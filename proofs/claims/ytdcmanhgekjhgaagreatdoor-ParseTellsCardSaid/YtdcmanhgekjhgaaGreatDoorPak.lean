import Derived.StillTailTactics
import Derived.Test.YtdcmanhgekjhgaaGreatDoorPai
import Derived.Test.YtdcmanhgekjhgaaGreatDoorPaj
set_option maxRecDepth 100000
set_option maxHeartbeats 12800000
namespace Go.Proofs.YtdcmanhgekjhgaaGreatDoor
open Go.RowKit Go.Proofs.Tryz
variable {d s:List Int} {v:Value} {w:World}
theorem a2l {A:Option Addr}{n c:Nat}{p:List Int}(h:Ten w v s d)(g:Ints w A n p)(hr:a0b s d=true)(hl:p.length=s.length)(hw:Sh.within s p=true):
  Calls prog 114 #[v,.slice A n c] w fun e w'=>e=.returned (.int .i64 (num s d p))∧Below w.heap.size w w':=by
 obtain⟨As,ns,cs,Bd,nd,cd,rfl,hsc,hdc,hS,hD⟩:=h;have h1:=((((Sep.nil w).old g).old hD).old hS).allocBox w.heap.size 89 [.slice As ns cs,.slice Bd nd cd] rfl
 go_enter func114,ntmps114
 go_upto_region 1 with fail
 generalize w.alloc (.cells #[.slice As ns cs,.slice Bd nd cd] 89)=W at *;obtain⟨b0,b1⟩:=h1.z2 0 rfl;have IS:=h1.oldInts 1 rfl;have ID:=h1.oldInts 2 rfl;have IP:=h1.oldInts 3 rfl;obtain⟨k,hk,hkd,hx⟩:=e6q hr hl hw;rw[hD.len] at hkd;obtain⟨ad,x,rfl,hb,hx', hc,hf⟩:=ID.at_ hkd;rw[hx] at hx';injection hx' with hx'
 have HX:=Hd hx';have C1:∀ q,Calls prog 115 #[.slice As ns cs,.slice A n c] (W.drewN q) fun e w'=>e=.returned (.int .i64 k)∧∃ k,w'=(W.drewN q).drewN k:=fun q=>by rw[←hk];exact a7t (IS.drewN q) (IP.drewN q)
 have H:=Hd h1;have HC:=Hd C1;clear h1 IS ID IP hk hx hx' hD hS g hl hw hr C1
 go_quiet ((go_at_call 115;exact(HC _).mono fun _ _ ⟨e,k,h⟩=>⟨e,_,h.trans (World.drewN_drewN _ _ _)⟩))
 go_wp2;go_ret;exact⟨a3e HX.symm,a1h H.base _⟩
theorem c3s {Af Az:Option Addr}{nf cf nz cz:Nat}{f z:List Int}(h:Ten w v s d)(hF:Ints w Af nf f)(hZ:Ints w Az nz z):
  Calls prog 84 #[v,.slice Af nf cf,.slice Az nz cz] w fun e w'=>(∃ u,e=.returned (.tuple #[u,.int .i64 (cutR s d f z).1])∧OTen w' w.heap.size u (cutR s d f z).2.1 (cutR s d f z).2.2)∧Below w.heap.size w w':=by
 obtain⟨A,n,c,B,m,e,rfl,hnc,hme,hI,hJ⟩:=h;have h1:=(((((((Sep.nil w).old hZ).old hF).old hJ).old hI).allocBox w.heap.size 89 [.slice A n c,.slice B m e] rfl).allocBox (w.heap.size+1) 89 [.slice none 0 0,.slice none 0 0] (by simp));have hsl:=hI.len;have hfl:=hF.len;have hzl:=hZ.len;have hnle:=hI.le;have hmle:=hJ.le;have hfle:=hF.le;have hzle:=hZ.le;have HFD:=Hd hJ.fit
 go_enter func84,ntmps84
 go_upto_region 1 with fail
 generalize (w.alloc (.cells #[.slice A n c,.slice B m e] 89)).alloc (.cells #[.slice none 0 0,.slice none 0 0] 89)=W at *;have H:=Hd h1;clear h1 hI hJ hF hZ;have hT:=a3z (H.oldInts 2 rfl) hnc (H.oldInts 3 rfl) hme;have C1:=a2c hT;have HT:=Hd hT;clear hT;obtain⟨t0,t1⟩:=H.z2 1 rfl;have HSL:=Hd hsl;have HFL:=Hd hfl;have HZL:=Hd hzl;clear hsl hfl hzl
 go_wp2_with fail
 cases hr:a0b s d with
 | false =>
  rw[hr] at C1;refine C1.mono ?_;rintro e2 w2 ⟨rfl,hb2⟩;replace H:=Hd (H.below hb2);have HX:=Hd (d2i (f:=f) (z:=z) hr);obtain⟨r0,r1,fr0,fr1⟩:=H.b2 0;clear hb2 hr C1 t0 t1;go_wp2;rw[HX.out]
  exact sN2 H 0 13 results84
 | true =>
  rw[hr] at C1;refine C1.mono ?_;rintro e2 w2 ⟨rfl,hb2⟩;replace H:=Hd (H.below hb2);have HRT:=Hd hr;clear hb2 hr C1 t0 t1 HT;obtain⟨t0,t1⟩:=H.z2 1 rfl;by_cases hlen:nf=n∧nz=n;rotate_left
  ·have HX:=Hd (c2q (f:=f) (z:=z) HRT (by cases hc:a4m s f z with|false=>rfl|true=>exact absurd (b2x hc) (by have:=HSL.out;have:=HFL.out;have:=HZL.out;omega)));have hg:((nf:Int) != (n:Int))=true∨(((nf:Int) != (n:Int))=false∧((nz:Int) != (n:Int))=true):=by simp;omega
   clear hlen;obtain⟨r0,r1,fr0,fr1⟩:=H.b2 0;rcases hg with hg|⟨hg,hg2⟩
   all_goals (
    go_wp2;rw[HX.out]
    exact sN2 H 0 1 results84)
  obtain⟨rfl,rfl⟩:=hlen
  go_wp2_with fail
  go_loopw [34] (fun kv wr=>∃ j:Nat,kv=.int .i64 j∧j≤nz∧(∀(k:Nat) (a b c:Int),k<j→s[k]?=some a→f[k]?=some b→z[k]?=some c→0≤b∧0≤c∧b≤a∧c≤a-b)∧∃ q,wr=w2.drewN q) (fun kv _=>nz-(intOf kv).toNat)
  case atStart=>exact⟨0,rfl,by omega,fun k a b c hk=>by omega,0,rfl⟩
  case round =>
   obtain⟨j,rfl,hj,hall,q,rfl⟩:=hrel;have HA:=Hd hall;clear hall;by_cases hlt:j<nz
   ·obtain⟨sa,a,hsA,_,ha,hca,hfa⟩:=(H.oldInts 2 rfl).at_ (k:=j) hlt;obtain⟨fa,b,hfA,_,hb,hcb,hfb⟩:=(H.oldInts 4 rfl).at_ (k:=j) hlt;obtain⟨za,cc,hzA,_,hcc,hcz,hfz⟩:=(H.oldInts 5 rfl).at_ (k:=j) hlt;subst hsA;subst hfA;subst hzA;have HE:=Hd (⟨ha,hb,hcc⟩:_∧_∧_);clear ha hb hcc;have HBAD:=Hd (fun (hbad:¬(0≤b∧0≤cc∧b≤a∧cc≤a-b))=>c2q (f:=f) (z:=z) HRT (by cases hc:a4m s f z with|false=>rfl|true=>exact absurd (b2w hc HE.out.1 HE.out.2.1 HE.out.2.2) hbad));obtain⟨r0,r1,fr0,fr1⟩:=H.b2 0;obtain⟨hfa1,hfa2⟩:=hfa;obtain⟨hfb1,hfb2⟩:=hfb;obtain⟨hfz1,hfz2⟩:=hfz;by_cases g1:b<0
    ·have d1:decide (b<0)=true:=by simpa using g1
     have HX:=Hd (HBAD (by omega))
     go_wp2_with fail
     go_quiet (fail)
     go_wp2;rw[HX.out];exact sN2 (H.drewN _) 0 1 results84
    have d1:decide (b<0)=false:=by simpa using g1
    by_cases g2:cc<0
    ·have d2:decide (cc<0)=true:=by simpa using g2
     have HX:=Hd (HBAD (by omega))
     go_wp2_with fail
     go_quiet (fail)
     go_wp2;rw[HX.out];exact sN2 (H.drewN _) 0 1 results84
    have d2:decide (cc<0)=false:=by simpa using g2
    by_cases g3:a<b
    ·have d3:decide (a<b)=true:=by simpa using g3
     have HX:=Hd (HBAD (by omega))
     go_wp2_with fail
     go_quiet (fail)
     go_wp2;rw[HX.out];exact sN2 (H.drewN _) 0 1 results84
    have d3:decide (a<b)=false:=by simpa using g3
    have hw:IntKind.i64.wrap (a-b)=a-b:=IntWalk.i64_in _ ⟨by omega,by omega⟩;by_cases g4:a-b<cc
    ·have d4:decide (a-b<cc)=true:=by simpa using g4
     have HX:=Hd (HBAD (by omega))
     go_wp2_with fail
     go_quiet (fail)
     go_wp2;rw[HX.out];exact sN2 (H.drewN _) 0 1 results84
    have d4:decide (a-b<cc)=false:=by simpa using g4
    have HN:=Hd (fun (k:Nat) (a b c:Int) (hk:k<j+1) (h1:s[k]?=some a) (h2:f[k]?=some b) (h3:z[k]?=some c)=>show 0≤b∧0≤c∧b≤a∧c≤a-b by
     rcases Nat.lt_or_ge k j with h' | h'
     ·exact HA k a b c h' h1 h2 h3
     ·obtain rfl:k=j:=by omega
      rw[HE.out.1] at h1;rw[HE.out.2.1] at h2;rw[HE.out.2.2] at h3;injection h1 with h1;injection h2 with h2;injection h3 with h3;omega)
    clear HBAD HE r0 r1 fr0 fr1
    go_wp2_with fail
    go_quiet (fail)
    go_wp2;go_roundw
    case rel=>exact⟨j+1,by go_num,by omega,HN,_,rfl⟩
    case measure=>simp[intOf];omega
   ·obtain rfl:j=nz:=by omega
    have hok:a4m s f z=true:=b6z (by have:=HSL.out;have:=HFL.out;omega) (by have:=HSL.out;have:=HZL.out;omega) fun k a b c h1 h2 h3=>HA.out k a b c (by have:=(lL h1);have:=HSL.out;omega) h1 h2 h3
    have HOK:=Hd hok;have hn4:j≤4:=by have:=(a3c HRT).1;have:=HSL.out;omega
    clear hok HA;replace H:=Hd (H.drewN q)
    go_wp2_with fail
    generalize w2.drewN q=w3 at *;refine(a1t 0 (H.oldInts 5 rfl) (by omega) ⟨by omega,by omega⟩).mono ?_;rintro e4 w4 ⟨⟨u,rfl,hu⟩,hb4⟩;obtain⟨S1,ns,sc,D1,N,dc,rfl,hs1,hd1,hsc,hdc,hNle,h5⟩:=H.addTen hb4 hu;rw[List.length_replicate] at hd1;rw[hd1] at h5;obtain⟨tgt,htg⟩:∃ t,cutD s d f z=t:=⟨_,rfl⟩;have HTL:=Hd (show tgt.length=N by rw[←htg,cutD,a5u,hd1]);have HAT:=Hd (show ∀ i:Nat,i<N→tgt[i]?=some (num s d (addP (Sh.placeOf z i) f)) from fun i hi=>by rw[←htg,cutD];exact b3a (by omega));have HSZ:=Hd (show ∀ i:Nat,i<N→(i:Int)<Sh.size z from fun i hi=>by have:=Sh.size_bd z;omega);have HQ:=Hd ((d5f HRT HOK).trans (by rw[htg]));have h6:=h5.allocBox w4.heap.size 89 [.slice S1 ns sc,.slice D1 N dc] rfl;clear hu hb4 h5 htg hd1 hs1
    go_upto_region 12 with fail
    generalize w4.alloc (.cells #[.slice S1 ns sc,.slice D1 N dc] 89)=w5 at *;generalize w4.heap.size=gt at *;replace H:=Hd h6;clear h6;obtain⟨o0,o1⟩:=H.z2 0 rfl
    go_wp2_with fail
    clear o0 o1
    go_loopw [85] (fun kv wr=>∃ i:Nat,kv=.int .i64 i∧i≤N∧Sep w wr [.box gt 89 [.slice S1 ns sc,.slice D1 N dc],.own 3 (.slice S1 ns sc) ns z,.own 2 (.slice D1 N dc) N (mix tgt (List.replicate N 0) i),.box (w.heap.size+1) 89 [.slice none 0 0,.slice none 0 0],.box w.heap.size 89 [.slice A j c,.slice B m e],.ints A j s,.ints B m d,.ints Af j f,.ints Az j z]) (fun kv _=>N - (intOf kv).toNat)
    case atStart=>exact⟨0,rfl,by omega,by rw[a4v];exact H⟩
    case round =>
     clear H;obtain⟨i,rfl,hi,hS⟩:=hrel;have H:=Hd hS;clear hS;by_cases hli:i<N
     ·have hiz:=HSZ.out i hli
      go_wp2_with fail
      refine(a3l i (H.oldInts 8 rfl) ⟨by omega,by omega⟩).mono ?_;rintro e6 w6 ⟨⟨v,n6,rfl,hO⟩,hb6⟩;obtain⟨A6,c6,rfl,hc6,_,_⟩:=hO.form;obtain⟨_,hpl,hpw,_⟩:=a1q hiz;have hp6:n6=j:=by have:=hO.len;have:=HZL.out;omega
      replace H:=Hd (H.addOwn hb6 hO);have HPF:=Hd hO.2.1;obtain⟨P,hP⟩:∃ P,Sh.placeOf z i=P:=⟨_,rfl⟩;rw[hP] at H HPF hpl hpw;have HP:=Hd hP;have HPL:=Hd (show P.length=j by have:=HZL.out;omega);have HPW:=Hd hpw;clear hb6 hO hP hpl hpw hc6;subst hp6
      go_wp2_with fail
      go_loopw [93] (fun kv wr=>∃ k:Nat,kv=.int .i64 k∧k≤n6∧Sep w wr [.own 3 (.slice A6 n6 c6) n6 (mix (addP P f) P k),.box gt 89 [.slice S1 ns sc,.slice D1 N dc],.own 3 (.slice S1 ns sc) ns z,.own 2 (.slice D1 N dc) N (mix tgt (List.replicate N 0) i),.box (w.heap.size+1) 89 [.slice none 0 0,.slice none 0 0],.box w.heap.size 89 [.slice A n6 c,.slice B m e],.ints A n6 s,.ints B m d,.ints Af n6 f,.ints Az n6 z]) (fun kv _=>n6-(intOf kv).toNat)
      case atStart=>exact⟨0,rfl,by omega,by rw[a4v];exact H⟩
      case round =>
       clear H;obtain⟨k,rfl,hk,hS⟩:=hrel;by_cases hlk:k<n6
       ·obtain⟨gp,cp,hv,hOp⟩:=(hS.ownS 0 rfl).own (by omega);injection hv with hv1 _ hv3
        subst hv1;subst hv3;obtain⟨x,hx⟩:=a0h (l:=P) (k:=k) (by have:=HPL.out;omega);obtain⟨fa,y,hfA,_,hy,hcy,hfy⟩:=(hS.oldInts 8 rfl).at_ (k:=k) hlk;subst hfA;have hal:(addP P f).length=P.length:=a6w (by have:=HPL.out;have:=HFL.out;omega);have hcx:=hOp.cell (j:=k) (x:=x) (by rw[d7a hal (by have:=HPL.out;omega)];exact hx);have hfr:=hOp.frozen k;obtain⟨zc,hzc⟩:=a0h (l:=z) (k:=k) (by have:=HZL.out;omega);obtain⟨sa,hsa⟩:=a0h (l:=s) (k:=k) (by have:=HSL.out;omega);have hb1:=Sh.within_at HPW hzc hx;have hb2:=b2w HOK hsa hy hzc;have hb3:=(Sh.right_iff.1 (a3o HRT)).2.1 sa (mG hsa);have hS2:=hS.store 0 k (x:=x+y) ⟨by omega,by omega⟩ rfl;have hw:IntKind.i64.wrap (x+y)=x+y:=IntWalk.i64_in _ ⟨by omega,by omega⟩;have HS2:=Hd (show Sep w (wr.setCell ⟨gp,k,none⟩ (.int .i64 (x+y))) (.own 3 (.slice (some ⟨gp,0,none⟩) n6 c6) n6 (mix (addP P f) P (k+1))::_) by rw[←c8z hal (c2l hx hy)];exact hS2);clear hS hS2 hOp hx hy hzc hsa hal hfy hb1 hb2 hb3
        go_upto_region 19 with fail
        go_still_tail 12,(by kernel_rfl)
        change wpList _ _ _ _ _ wr.drew;have hcx1:wr.drew.cell? ⟨gp,k,none⟩=some (.int .i64 x):=hcx;have hfr1:wr.drew.frozen? ⟨gp,k,none⟩=false:=hfr;go_wp2;go_roundw
        case rel=>exact⟨k+1,by go_num,by omega,HS2.drew⟩
        case measure=>simp[intOf];omega
       ·have hkn:n6=k:=by omega
        subst hkn;rw[show mix (addP P f) P n6=addP P f by have:=c3e (t:=addP P f) (o:=P) (a6w (by have:=HPL.out;have:=HFL.out;omega));rwa [HPL.out] at this] at hS;obtain⟨gb,cb,hv,hO⟩:=(hS.ownS 3 rfl).own (by omega);injection hv with hv1 _ hv3
        subst hv1;subst hv3;have H:=Hd hS;obtain⟨o0,o1⟩:=H.z2 1 rfl;obtain⟨t0,t1⟩:=H.z2 5 rfl;have hwi:=d2j HOK hiz;rw[HP.out] at hwi;obtain⟨X,hX⟩:∃ X,num s d (addP P f)=X:=⟨_,rfl⟩;have hfX:Fits X:=by rw[←hX];exact b6l HFD
        have C1:=a2l (w:=wr.drew) (c:=c6) (a3z (H.oldInts 6 rfl) hnc (H.oldInts 7 rfl) hme) (H.ownInts 0 rfl).2.2 HRT hwi.1 hwi.2;rw[hX] at C1;have HTX:=Hd (show tgt[i]?=some X by rw[HAT.out i hli,HP.out,hX]);clear hS hO hwi hX hlk o0;have HM:=Hd (a8e (c:=0) HTL hli);have HFX:=Hd hfX;clear hfX
        go_upto_region 21 with fail
        go_region_held3 (fun w'=>w'.cell? ⟨gt,1,none⟩=some (.slice (some ⟨gb,0,none⟩) N dc)∧w'.cell? ⟨w.heap.size,0,none⟩=some (.slice A n6 c)∧w'.cell? ⟨w.heap.size,1,none⟩=some (.slice B m e)) (go_keep)
         (first|(go_at_call 114;refine C1.mono ?_;rintro e7 w7 ⟨rfl,hb7⟩;have H7:=Hd (H.drew.below hb7);have m0:=H7.c 1 1;obtain⟨m1,m2⟩:=H7.z2 5 rfl;have hcs:=(H7.own 3 rfl).cell HM;have hfs:=(H7.own 3 rfl).frozen i;have HS7:=Hd (H7.store 3 i HFX rfl);have k0:(w7.setCell ⟨gb,i,none⟩ (.int .i64 X)).cell? ⟨gt,1,none⟩=some (.slice (some ⟨gb,0,none⟩) N dc):=HS7.c 1 1;have k1:(w7.setCell ⟨gb,i,none⟩ (.int .i64 X)).cell? ⟨w.heap.size,0,none⟩=some (.slice A n6 c):=HS7.c 5 0;have k2:(w7.setCell ⟨gb,i,none⟩ (.int .i64 X)).cell? ⟨w.heap.size,1,none⟩=some (.slice B m e):=HS7.c 5 1))
        clear o1 t0 t1 m0 m1 m2 k0 k1 k2 hcs hfs;go_wp2;go_roundw
        case rel=>exact⟨i+1,by go_num,by omega,by rw[←a5n HTL.out HTX.out];exact HS7.sub [1,2,3,4,5,6,7,8,9] rfl (by decide)⟩
        case measure=>simp[intOf];omega
     ·have hin:N=i:=by omega
      subst hin;rw[a8d HTL.out] at H;obtain⟨o0,o1⟩:=H.z2 0 rfl;obtain⟨r0,r1,fr0,fr1⟩:=H.b2 3;go_wp2;rw[HQ.out];exact sY2 ((H.setBox 3 0 (.slice S1 ns sc) rfl).setBox 3 1 (.slice D1 N dc) rfl) 3 1 2 (.int .i64 0) results84
theorem c0o {Ao Aa:Option Addr}{no co na ca:Nat}{o a:List Int}(h:Ten w v s d)(hO:Ints w Ao no o)(hA:Ints w Aa na a):
  Calls prog 83 #[v,.slice Ao no co,.slice Aa na ca] w fun e w'=>(∃ u,e=.returned (.tuple #[u,.int .i64 (spR s d o a).1])∧OTen w' w.heap.size u (spR s d o a).2.1 (spR s d o a).2.2)∧Below w.heap.size w w':=by
 obtain⟨A,n,c,B,m,e,rfl,hnc,hme,hI,hJ⟩:=h;have h1:=((((((Sep.nil w).old hA).old hO).old hJ).old hI).allocBox w.heap.size 89 [.slice A n c,.slice B m e] rfl).allocBox (w.heap.size+1) 89 [.slice none 0 0,.slice none 0 0] (by simp);have hsl:=hI.len;have hnle:=hI.le;have hmle:=hJ.le;have HFD:=Hd hJ.fit;have HDL:=Hd hJ.len;have hlo:=hO.len;have hleo:=hO.le;have hla:=hA.len;have hlea:=hA.le
 go_enter func83,ntmps83
 go_upto_region 1 with fail
 generalize (w.alloc (.cells #[.slice A n c,.slice B m e] 89)).alloc (.cells #[.slice none 0 0,.slice none 0 0] 89)=W at *;have H:=Hd h1;clear h1 hI hJ hO hA;have HSL:=Hd hsl;clear hsl;have HLo:=Hd hlo;clear hlo;have HLa:=Hd hla;clear hla;have hT:=a3z (H.oldInts 2 rfl) hnc (H.oldInts 3 rfl) hme;have C1:=a2c hT;have HT:=Hd hT;clear hT;obtain⟨t0,t1⟩:=H.z2 1 rfl
 go_wp2_with fail
 cases hr:a0b s d with
 | false =>
  rw[hr] at C1;refine C1.mono ?_;rintro e2 w2 ⟨rfl,hb2⟩;replace H:=Hd (H.below hb2);have HX:=Hd (b9r (s:=s) (d:=d) (o:=o) (a:=a) (by rw[hr];rfl));obtain⟨r0,r1,fr0,fr1⟩:=H.b2 0;clear hb2 hr C1 t0 t1;go_wp2;rw[HX.out]
  exact sN2 H 0 13 results83
 | true =>
  rw[hr] at C1;refine C1.mono ?_;rintro e2 w2 ⟨rfl,hb2⟩;replace H:=Hd (H.below hb2);have HRT:=Hd hr;clear hb2 hr C1 t0 t1 HT;have C2:=a0r (c:=co) (H.oldInts 4 rfl)
  go_wp2_with fail
  cases ho:Sh.right o with
  | false =>
   rw[ho] at C2;refine C2.mono ?_;rintro e3 w3 ⟨rfl,rfl⟩;have HX:=Hd (b9r (s:=s) (d:=d) (o:=o) (a:=a) (by rw[HRT.out,ho];rfl));obtain⟨r0,r1,fr0,fr1⟩:=H.b2 0;clear ho C2;go_wp2;rw[HX.out]
   exact sN2 H 0 13 results83
  | true =>
   rw[ho] at C2;refine C2.mono ?_;rintro e3 w3 ⟨rfl,rfl⟩;have HRO:=Hd (show(a0b s d&&Sh.right o)=true by rw[HRT.out,ho];rfl);have HR2:=Hd ho;clear ho C2;obtain⟨t0,t1⟩:=H.z2 1 rfl;by_cases hlen:na=n;rotate_left
   ·have HX:=Hd (c9r (a:=a) HRO (fun hc=>absurd hc.1 (by have:=HSL.out;have:=HLa.out;omega)));have hg:((na:Int) != (n:Int))=true:=by simp;omega
    clear hlen;obtain⟨r0,r1,fr0,fr1⟩:=H.b2 0;go_wp2;rw[HX.out];exact sN2 H 0 1 results83
   obtain rfl:na=n:=hlen
   go_wp2_with fail
   go_loopw [32] (fun kv wr=>∃ j:Nat,kv=.int .i64 j∧j≤na∧(∀ k,k<j→SpAt s o a k)∧∃ q,wr=w2.drewN q) (fun kv _=>na-(intOf kv).toNat)
   case atStart=>exact⟨0,rfl,by omega,fun k hk=>by omega,0,rfl⟩
   case round =>
    obtain⟨j,rfl,hj,hall,q,rfl⟩:=hrel;have HA:=Hd hall;clear hall;by_cases hlt:j<na
    ·obtain⟨sa,y,hsA,_,hy,hcy,hfy⟩:=(H.oldInts 2 rfl).at_ (k:=j) hlt;obtain⟨aa,x,haA,_,hx,hcx,hfx⟩:=(H.oldInts 5 rfl).at_ (k:=j) hlt;subst hsA;subst haA;have HE:=Hd (⟨hx,hy⟩:_∧_);clear hx hy;have HBAD:=Hd (fun (hbad:¬(0≤x∧x<no∧(∀ z,0<j→a[j-1]?=some z→z<x)∧o[x.toNat]?=some y))=>c9r (s:=s) (d:=d) (o:=o) (a:=a) HRO (fun hc=>hbad (by have:=hc.2 j x y HE.out.1 HE.out.2;rwa [HLo.out] at this)));obtain⟨r0,r1,fr0,fr1⟩:=H.b2 0;obtain⟨hfx1,hfx2⟩:=hfx;by_cases g1:x<0
     ·have d1:decide (x<0)=true:=by simpa using g1
      have HX:=Hd (HBAD (by omega))
      go_wp2_with fail
      go_quiet (fail)
      go_wp2;rw[HX.out];exact sN2 (H.drewN _) 0 1 results83
     have d1:decide (x<0)=false:=by simpa using g1
     by_cases g2:(no:Int)≤x
     ·have d2:decide ((no:Int)≤x)=true:=by simpa using g2
      have HX:=Hd (HBAD (by omega))
      go_wp2_with fail
      go_quiet (fail)
      go_wp2;rw[HX.out];exact sN2 (H.drewN _) 0 1 results83
     have d2:decide ((no:Int)≤x)=false:=by simpa using g2
     obtain⟨xn,rfl⟩:=eZ (by omega:0≤x);have hxn:xn<no:=by omega
     have e2:decide (no≤xn)=false:=by simp;omega
     obtain⟨oa,v,hoA,_,hv,hcv,hfv⟩:=(H.oldInts 4 rfl).at_ (k:=xn) hxn;subst hoA;have HV:=Hd hv;clear hv
     obtain⟨jp,u,hju,hau⟩:∃(jp:Nat) (u:Int),(j=0∨(j=jp+1∧a[jp]?=some u))∧(j=0∨(w2.cell? (aa.add jp)=some (.int .i64 u))):=by
      rcases Nat.eq_zero_or_pos j with hj0|hj0
      ·exact⟨0,0,.inl hj0,.inl hj0⟩
      ·obtain⟨aa2,u,haA,_,hu,hcu,_⟩:=(H.oldInts 5 rfl).at_ (k:=j-1) (by omega);injection haA with haA;subst haA
       exact⟨j-1,u,.inr ⟨by omega,hu⟩,.inr hcu⟩
     have HJ:=Hd hju;clear hju;by_cases g3:0<j∧(xn:Int)≤u
     ·obtain⟨g3,g4⟩:=g3;have hcu:w2.cell? (aa.add jp)=some (.int .i64 u):=by rcases hau with h|h;exact absurd h (by omega);exact h
      have hjp:j=jp+1∧a[jp]?=some u:=by rcases HJ with h|h;exact absurd h (by omega);exact h
      have hw:IntKind.i64.wrap ((j:Int)-1)=(jp:Int):=by rw[show(j:Int)-1=(jp:Int) by omega];exact IntWalk.i64_in _ ⟨by omega,by omega⟩
      have d3:decide (0<j)=true:=by simpa using g3
      have d4:decide ((xn:Int)≤u)=true:=by simpa using g4
      have hjl:jp<na:=by omega
      have HX:=Hd (HBAD (fun hh=>absurd (hh.2.2.1 u g3 (by rw[show j-1=jp by omega];exact hjp.2)) (by omega)));clear hau hjp g3 g4
      go_wp2_with fail
      go_quiet (fail)
      go_wp2;rw[HX.out];exact sN2 (H.drewN _) 0 1 results83
     by_cases hj0:j=0
     ·have d3:decide (0<j)=false:=by simp[hj0]
      have HJ0:=Hd hj0;clear hau hj0;by_cases g5:v=y
      ·subst g5;have d5:(v != v)=false:=by simp
       have HN:=Hd (show ∀ k,k<j+1→SpAt s o a k from fun k hk=>by
        rcases Nat.lt_or_ge k j with h' | h'
        ·exact HA k h'
        ·obtain rfl:k=j:=by omega
         intro x y hx hy;rw[HE.out.1] at hx;rw[HE.out.2] at hy;injection hx with hx;injection hy with hy;subst hx;subst hy
         exact⟨by omega,by rw[HLo.out];omega,fun z hz=>absurd HJ0.out (by omega),HV⟩)
       clear HBAD HE r0 r1 fr0 fr1
       go_wp2_with fail
       go_quiet (fail)
       go_wp2;go_roundw
       case rel=>exact⟨j+1,by go_num,by omega,HN,_,rfl⟩
       case measure=>simp[intOf];omega
      ·have d5:(v != y)=true:=by simpa using g5
       have HX:=Hd (HBAD (fun hh=>g5 (by have h3:=hh.2.2.2;rw[Int.toNat_natCast,HV.out] at h3;injection h3)))
       go_wp2_with fail
       go_quiet (fail)
       go_wp2;rw[HX.out];exact sN2 (H.drewN _) 0 1 results83
     ·have d3:decide (0<j)=true:=by simp;omega
      have hcu:w2.cell? (aa.add jp)=some (.int .i64 u):=by rcases hau with h|h;exact absurd h hj0;exact h
      have hjp:j=jp+1∧a[jp]?=some u:=by rcases HJ with h|h;exact absurd h hj0;exact h
      have hw:IntKind.i64.wrap ((j:Int)-1)=(jp:Int):=by rw[show(j:Int)-1=(jp:Int) by omega];exact IntWalk.i64_in _ ⟨by omega,by omega⟩
      have d4:decide ((xn:Int)≤u)=false:=by simp;omega
      have hjl:jp<na:=by omega
      have HJP:=Hd hjp;clear hau hjp hj0;by_cases g5:v=y
      ·subst g5;have d5:(v != v)=false:=by simp
       have HN:=Hd (show ∀ k,k<j+1→SpAt s o a k from fun k hk=>by
        rcases Nat.lt_or_ge k j with h' | h'
        ·exact HA k h'
        ·obtain rfl:k=j:=by omega
         intro x y hx hy;rw[HE.out.1] at hx;rw[HE.out.2] at hy;injection hx with hx;injection hy with hy;subst hx;subst hy
         exact⟨by omega,by rw[HLo.out];omega,fun z hz hz2=>by have:=HJP.out;rw[show k-1=jp by have:=HJP.out.1;omega,this.2] at hz2;injection hz2 with hz2;omega,HV⟩)
       clear HBAD HE r0 r1 fr0 fr1
       go_wp2_with fail
       go_quiet (fail)
       go_wp2;go_roundw
       case rel=>exact⟨j+1,by go_num,by omega,HN,_,rfl⟩
       case measure=>simp[intOf];omega
      ·have d5:(v != y)=true:=by simpa using g5
       have HX:=Hd (HBAD (fun hh=>g5 (by have h3:=hh.2.2.2;rw[Int.toNat_natCast,HV.out] at h3;injection h3)))
       go_wp2_with fail
       go_quiet (fail)
       go_wp2;rw[HX.out];exact sN2 (H.drewN _) 0 1 results83
    ·obtain rfl:j=na:=by omega
     have HOK:=Hd (show SpOk s o a from⟨by have:=HSL.out;have:=HLa.out;omega,fun k x y hx hy=>HA.out k (by have:=(lL hx);have:=HLa.out;omega) x y hx hy⟩);have hno4:no≤4:=by have:=(Sh.right_iff.1 HR2).1;have:=HLo.out;omega
     have hj4:j≤4:=by have:=(a3c HRT).1;have:=HSL.out;omega
     clear HA hlt;replace H:=Hd (H.drewN q);generalize w2.drewN q=w3 at *
     go_wp2_with fail
     refine(a1t 0 (H.oldInts 4 rfl) (by omega) ⟨by omega,by omega⟩).mono ?_;rintro e4 w4 ⟨⟨u,rfl,hu⟩,hb4⟩;obtain⟨S1,ns,sc,D1,N,dc,rfl,hs1,hd1,hsc,hdc,hNle,h5⟩:=H.addTen hb4 hu;rw[List.length_replicate] at hd1;rw[hd1] at h5;obtain⟨tgt,htg⟩:∃ t,spD s d o a=t:=⟨_,rfl⟩;have HTL:=Hd (show tgt.length=N by rw[←htg,spD,a5u,hd1]);have HAT:=Hd (show ∀ i:Nat,i<N→tgt[i]?=some (num s d (spP (Sh.placeOf o i) a)) from fun i hi=>by rw[←htg,spD];exact b3a (by omega));have HSZ:=Hd (show ∀ i:Nat,i<N→(i:Int)<Sh.size o from fun i hi=>by have:=Sh.size_bd o;omega);have HQ:=Hd ((e4a HRO HOK).trans (by rw[htg]));clear htg;have h6:=h5.allocBox w4.heap.size 89 [.slice S1 ns sc,.slice D1 N dc] rfl;clear hu hb4 h5 hd1 hs1
     go_upto_region 12 with fail
     generalize w4.alloc (.cells #[.slice S1 ns sc,.slice D1 N dc] 89)=w5 at *;generalize w4.heap.size=gt at *;replace H:=Hd h6;clear h6;obtain⟨o0,o1⟩:=H.z2 0 rfl
     go_wp2_with fail
     clear o0 o1
     go_loopw [87] (fun kv wr=>∃ i:Nat,kv=.int .i64 i∧i≤N∧Sep w wr [.box gt 89 [.slice S1 ns sc,.slice D1 N dc],.own 3 (.slice S1 ns sc) ns o,.own 2 (.slice D1 N dc) N (mix tgt (List.replicate N 0) i),.box (w.heap.size+1) 89 [.slice none 0 0,.slice none 0 0],.box w.heap.size 89 [.slice A j c,.slice B m e],.ints A j s,.ints B m d,.ints Ao no o,.ints Aa j a]) (fun kv _=>N - (intOf kv).toNat)
     case atStart=>exact⟨0,rfl,by omega,by rw[a4v];exact H⟩
     case round =>
      clear H;obtain⟨i,rfl,hi,hS⟩:=hrel;have H:=Hd hS;clear hS;by_cases hli:i<N
      ·have hiz:=HSZ.out i hli
       go_wp2_with fail
       refine(a3l i (H.oldInts 7 rfl) ⟨by omega,by omega⟩).mono ?_;rintro e6 w6 ⟨⟨v,n6,rfl,hO⟩,hb6⟩;obtain⟨A6,c6,rfl,hc6,_,_⟩:=hO.form;obtain⟨_,hpl,hpw,_⟩:=a1q hiz;have hp6:n6=no:=by have:=hO.len;have:=HLo.out;omega
       replace H:=Hd ((H.addOwn hb6 hO).addNil 3);obtain⟨P,hP⟩:∃ P,Sh.placeOf o i=P:=⟨_,rfl⟩;rw[hP] at H hpl;have HP:=Hd hP;have HPL:=Hd (show P.length=no by have:=HLo.out;omega);subst hp6;clear hb6 hO hP hpl hpw hc6
       go_wp2_with fail
       go_loopw [95,12] (fun kv vf wr=>∃ k:Nat,kv=.int .i64 k∧k≤j∧Sep w wr [.own 3 vf k ((spP P a).take k),.own 3 (.slice A6 n6 c6) n6 P,.box gt 89 [.slice S1 ns sc,.slice D1 N dc],.own 3 (.slice S1 ns sc) ns o,.own 2 (.slice D1 N dc) N (mix tgt (List.replicate N 0) i),.box (w.heap.size+1) 89 [.slice none 0 0,.slice none 0 0],.box w.heap.size 89 [.slice A j c,.slice B m e],.ints A j s,.ints B m d,.ints Ao n6 o,.ints Aa j a]) (fun kv _ _=>j-(intOf kv).toNat)
       case atStart=>exact⟨0,rfl,by omega,H⟩
       case round =>
        clear H;obtain⟨k,rfl,hk,hS⟩:=hrel;by_cases hlk:k<j
        ·obtain⟨aa,x,haA,_,hx,hcx,hfx⟩:=(hS.oldInts 10 rfl).at_ (k:=k) hlk;subst haA;have hxi:=e6w HOK hx;obtain⟨xn,rfl⟩:=eZ hxi.1;have hxn:xn<n6:=by have:=HLo.out;omega
         obtain⟨pa,y,hpA,_,hy,hcy,hfy⟩:=((hS.ownInts 1 rfl).2.2).at_ (k:=xn) hxn;subst hpA;have HTK:=Hd (e3d hx hy);have HF:=Hd hfy;have H:=Hd hS;clear hS hx hy hxi hfx hfy
         go_wp2_with (at_builtin;refine a0o rfl (.tmp 98) (.tmp 106) 25 3 rfl underlying25 Tryz.infoInt H.out 0 rfl rfl y HF.out _ rfl ?c1 ?_)
         case c1=>omega
         intro v' w' h';have H8:=Hd h';clear h' hcx hcy;go_wp2;go_roundw
         case rel=>exact⟨k+1,by go_num,by omega,by rw[←HTK.out];exact H8⟩
         case measure=>simp[intOf];omega
        ·have hkn:j=k:=by omega
         subst hkn;rw[show(spP P a).take j=spP P a from List.take_of_length_le (by rw[c2e];have:=HLa.out;omega)] at hS;obtain⟨Af,cf,hvf,hcf,_,_⟩:=(hS.ownS 0 rfl).form;subst hvf;obtain⟨gb,cb,hv,hO⟩:=(hS.ownS 4 rfl).own (by omega);injection hv with hv1 _ hv3
         subst hv1;subst hv3;have H:=Hd hS;obtain⟨o0,o1⟩:=H.z2 2 rfl;obtain⟨t0,t1⟩:=H.z2 6 rfl;have hwi:=d8w HOK hiz;rw[HP.out] at hwi;obtain⟨X,hX⟩:∃ X,num s d (spP P a)=X:=⟨_,rfl⟩;have hfX:Fits X:=by rw[←hX];exact b6l HFD
         have C1:=a2l (w:=wr.drew) (c:=cf) (a3z (H.oldInts 7 rfl) hnc (H.oldInts 8 rfl) hme) (H.ownInts 0 rfl).2.2 HRT hwi.1 hwi.2;rw[hX] at C1;have HTX:=Hd (show tgt[i]?=some X by rw[HAT.out i hli,HP.out,hX]);clear hS hO hwi hX o0;have HM:=Hd (a8e (c:=0) HTL hli);have HFX:=Hd hfX;clear hfX
         go_upto_region 22 with fail
         go_region_held3 (fun w'=>w'.cell? ⟨gt,1,none⟩=some (.slice (some ⟨gb,0,none⟩) N dc)∧w'.cell? ⟨w.heap.size,0,none⟩=some (.slice A j c)∧w'.cell? ⟨w.heap.size,1,none⟩=some (.slice B m e)) (go_keep)
          (first|(go_at_call 114;refine C1.mono ?_;rintro e7 w7 ⟨rfl,hb7⟩;have H7:=Hd (H.drew.below hb7);have m0:=H7.c 2 1;obtain⟨m1,m2⟩:=H7.z2 6 rfl;have hcs:=(H7.own 4 rfl).cell HM;have hfs:=(H7.own 4 rfl).frozen i;have HS7:=Hd (H7.store 4 i HFX rfl);have k0:(w7.setCell ⟨gb,i,none⟩ (.int .i64 X)).cell? ⟨gt,1,none⟩=some (.slice (some ⟨gb,0,none⟩) N dc):=HS7.c 2 1;have k1:(w7.setCell ⟨gb,i,none⟩ (.int .i64 X)).cell? ⟨w.heap.size,0,none⟩=some (.slice A j c):=HS7.c 6 0;have k2:(w7.setCell ⟨gb,i,none⟩ (.int .i64 X)).cell? ⟨w.heap.size,1,none⟩=some (.slice B m e):=HS7.c 6 1))
         clear o1 t0 t1 m0 m1 m2 k0 k1 k2 hcs hfs;go_wp2;go_roundw
         case rel=>exact⟨i+1,by go_num,by omega,by rw[←a5n HTL.out HTX.out];exact HS7.sub [2,3,4,5,6,7,8,9,10] rfl (by decide)⟩
         case measure=>simp[intOf];omega
      ·have hin:N=i:=by omega
       subst hin;rw[a8d HTL.out] at H;obtain⟨o0,o1⟩:=H.z2 0 rfl;obtain⟨r0,r1,fr0,fr1⟩:=H.b2 3;go_wp2;rw[HQ.out];exact sY2 ((H.setBox 3 0 (.slice S1 ns sc) rfl).setBox 3 1 (.slice D1 N dc) rfl) 3 1 2 (.int .i64 0) results83
end Go.Proofs.YtdcmanhgekjhgaaGreatDoor
