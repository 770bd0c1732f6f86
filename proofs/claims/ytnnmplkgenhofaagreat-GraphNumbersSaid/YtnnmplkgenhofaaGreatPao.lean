import Derived.StillTailTactics
import Derived.Test.YtnnmplkgenhofaaGreatPan
set_option maxRecDepth 100000
set_option maxHeartbeats 12800000
namespace Go.Proofs.YtnnmplkgenhofaaGreat
open Go.RowKit
theorem ref4Number_any {w:World} {v:Value} {A:Option Addr} {n c:Nat} {s d p:List Int} (h:Ten w v s d) (g:Ints w A n p) (hr:tenRight s d=true) (hl:p.length=s.length) (hw:Sh.within s p=true) :
  Calls Tryz.prog 97 #[v,.slice A n c] w fun e w' => e=.returned (.int .i64 (num s d p))∧Below w.heap.size w w' := by
 obtain⟨As,ns,cs,Bd,nd,cd,rfl,hsc,hdc,hS,hD⟩:=h;have h1:=((((Sep.nil w).old g).old hD).old hS).allocBox w.heap.size 71 [.slice As ns cs,.slice Bd nd cd] rfl
 go_enter Tryz.func97,Tryz.ntmps97
 go_upto_region 1 with fail
 generalize w.alloc (.cells #[.slice As ns cs,.slice Bd nd cd] 71)=W at *;obtain ⟨b0,b1⟩:=h1.z2 0 rfl;have IS:=h1.oldInts 1 rfl;have ID:=h1.oldInts 2 rfl;have IP:=h1.oldInts 3 rfl;obtain⟨k,hk,hkd,hx⟩:=num_at hr hl hw;rw[hD.len] at hkd;obtain⟨ad,x,rfl,hb,hx', hc,hf⟩:=ID.at_ hkd;rw[hx] at hx';injection hx' with hx'
 have HX:=Hd hx';have C1:∀ q,Calls Tryz.prog 98 #[.slice As ns cs,.slice A n c] (W.drewN q) fun e w' => e=.returned (.int .i64 k)∧∃ k,w' = (W.drewN q).drewN k:=fun q=>by rw[← hk];exact refIndex_any (IS.drewN q) (IP.drewN q)
 have H:=Hd h1;have HC:=Hd C1;clear h1 IS ID IP hk hx hx' hD hS g hl hw hr C1
 go_quiet ((go_at_call 98;exact(HC.out _).mono fun _ _ ⟨e,k,h⟩=>⟨e,_,h.trans (World.drewN_drewN _ _ _)⟩))
 go_wp2;go_ret;exact⟨ret_int HX.out.symm,below_drewN H.out.base _⟩
theorem ref4Slice_any {w:World} {v:Value} {Af Az:Option Addr} {nf cf nz cz:Nat} {s d f z:List Int} (h:Ten w v s d) (hF:Ints w Af nf f) (hZ:Ints w Az nz z) :
  Calls Tryz.prog 72 #[v,.slice Af nf cf,.slice Az nz cz] w fun e w' => (∃ u,e=.returned (.tuple #[u,.int .i64 (cutR s d f z).1])∧OTen w' w.heap.size u (cutR s d f z).2.1 (cutR s d f z).2.2)∧Below w.heap.size w w' := by
 obtain⟨A,n,c,B,m,e,rfl,hnc,hme,hI,hJ⟩:=h;have h1:=(((((((Sep.nil w).old hZ).old hF).old hJ).old hI).allocBox w.heap.size 71 [.slice A n c,.slice B m e] rfl).allocBox (w.heap.size+1) 71 [.slice none 0 0,.slice none 0 0] (by simp));have hsl:=hI.len;have hfl:=hF.len;have hzl:=hZ.len;have hnle:=hI.le;have hmle:=hJ.le;have hfle:=hF.le;have hzle:=hZ.le;have HFD:=Hd hJ.fit
 go_enter Tryz.func72,Tryz.ntmps72
 go_upto_region 1 with fail
 generalize (w.alloc (.cells #[.slice A n c,.slice B m e] 71)).alloc (.cells #[.slice none 0 0,.slice none 0 0] 71)=W at *;have H:=Hd h1;clear h1 hI hJ hF hZ;have hT:=ten_mk (H.out.oldInts 2 rfl) hnc (H.out.oldInts 3 rfl) hme;have C1:=refTensor_any hT;have HT:=Hd hT;clear hT;obtain ⟨t0,t1⟩:=H.out.z2 1 rfl;have HSL:=Hd hsl;have HFL:=Hd hfl;have HZL:=Hd hzl;clear hsl hfl hzl
 go_wp2_with fail
 cases hr:tenRight s d with
 | false =>
  rw[hr] at C1;refine C1.mono ?_;rintro e2 w2 ⟨rfl,hb2⟩;replace H:=Hd (H.out.below hb2);have HX:=Hd (cutR_shape (f:=f) (z:=z) hr);obtain ⟨r0,r1⟩:=H.out.z2 0 rfl;obtain ⟨fr0,fr1⟩:=H.out.f2 0 rfl;clear hb2 hr C1 t0 t1;go_wp2;rw[HX.out]
  exact sep_ret2 ((H.out.setBox 0 0 (.slice none 0 0) rfl).setBox 0 1 (.slice none 0 0) rfl) 0 rfl (z:=.int .i64 13) Tryz.results72 rfl rfl rfl ⟨⟨_,rfl,_,_,0,0,rfl,OwnS.nil_ _ _ _,OwnS.nil_ _ _ _⟩,((H.out.setBox 0 0 (.slice none 0 0) rfl).setBox 0 1 (.slice none 0 0) rfl).base⟩
 | true =>
  rw[hr] at C1;refine C1.mono ?_;rintro e2 w2 ⟨rfl,hb2⟩;replace H:=Hd (H.out.below hb2);have HRT:=Hd hr;clear hb2 hr C1 t0 t1 HT;obtain ⟨t0,t1⟩:=H.out.z2 1 rfl;by_cases hlen:nf=n∧nz=n;rotate_left
  ·have HX:=Hd (cutR_arg (f:=f) (z:=z) HRT.out (by cases hc:cutOk s f z with|false=>rfl|true=>exact absurd (cutOk_len hc) (by have:=HSL.out;have:=HFL.out;have:=HZL.out;omega)));have hg:((nf:Int) != (n:Int))=true∨(((nf:Int) != (n:Int))=false∧((nz:Int) != (n:Int))=true):=by simp;omega
   clear hlen;obtain ⟨r0,r1⟩:=H.out.z2 0 rfl;obtain ⟨fr0,fr1⟩:=H.out.f2 0 rfl;rcases hg with hg|⟨hg,hg2⟩
   all_goals (
    go_wp2;rw[HX.out]
    exact sep_ret2 ((H.out.setBox 0 0 (.slice none 0 0) rfl).setBox 0 1 (.slice none 0 0) rfl) 0 rfl (z:=.int .i64 1) Tryz.results72 rfl rfl rfl ⟨⟨_,rfl,_,_,0,0,rfl,OwnS.nil_ _ _ _,OwnS.nil_ _ _ _⟩,((H.out.setBox 0 0 (.slice none 0 0) rfl).setBox 0 1 (.slice none 0 0) rfl).base⟩)
  obtain⟨rfl,rfl⟩:=hlen
  go_wp2_with fail
  go_loopw [34] (fun kv wr=>∃ j:Nat,kv=.int .i64 j∧j≤nz∧(∀(k:Nat) (a b c:Int),k<j→s[k]? = some a→f[k]? = some b→z[k]? = some c→0≤b∧0≤c∧b≤a∧c≤a-b)∧∃ q,wr=w2.drewN q) (fun kv _=>nz-(intOf kv).toNat)
  case atStart=>exact⟨0,rfl,by omega,fun k a b c hk=>by omega,0,rfl⟩
  case round =>
   obtain⟨j,rfl,hj,hall,q,rfl⟩:=hrel;have HA:=Hd hall;clear hall;by_cases hlt:j<nz
   ·obtain⟨sa,a,hsA,_,ha,hca,hfa⟩:=(H.out.oldInts 2 rfl).at_ (k:=j) hlt;obtain⟨fa,b,hfA,_,hb,hcb,hfb⟩:=(H.out.oldInts 4 rfl).at_ (k:=j) hlt;obtain⟨za,cc,hzA,_,hcc,hcz,hfz⟩:=(H.out.oldInts 5 rfl).at_ (k:=j) hlt;subst hsA;subst hfA;subst hzA;have HE:=Hd (⟨ha,hb,hcc⟩:_∧_∧_);clear ha hb hcc;have HBAD:=Hd (fun (hbad:¬ (0≤b∧0≤cc∧b≤a∧cc≤a-b))=>cutR_arg (f:=f) (z:=z) HRT.out (by cases hc:cutOk s f z with|false=>rfl|true=>exact absurd (cutOk_at hc HE.out.1 HE.out.2.1 HE.out.2.2) hbad));obtain ⟨r0,r1⟩:=H.out.z2 0 rfl;obtain ⟨fr0,fr1⟩:=H.out.f2 0 rfl;obtain⟨hfa1,hfa2⟩:=hfa;obtain⟨hfb1,hfb2⟩:=hfb;obtain⟨hfz1,hfz2⟩:=hfz;by_cases g1:b<0
    ·have d1:decide (b<0)=true:=by simpa using g1
     have HX:=Hd (HBAD.out (by omega))
     go_wp2_with fail
     go_quiet (fail)
     go_wp2;rw[HX.out];exact sep_ret2 (((H.out.drewN _).setBox 0 0 (.slice none 0 0) rfl).setBox 0 1 (.slice none 0 0) rfl) 0 rfl (z:=.int .i64 1) Tryz.results72 rfl rfl rfl ⟨⟨_,rfl,_,_,0,0,rfl,OwnS.nil_ _ _ _,OwnS.nil_ _ _ _⟩,(((H.out.drewN _).setBox 0 0 (.slice none 0 0) rfl).setBox 0 1 (.slice none 0 0) rfl).base⟩
    have d1:decide (b<0)=false:=by simpa using g1
    by_cases g2:cc<0
    ·have d2:decide (cc<0)=true:=by simpa using g2
     have HX:=Hd (HBAD.out (by omega))
     go_wp2_with fail
     go_quiet (fail)
     go_wp2;rw[HX.out];exact sep_ret2 (((H.out.drewN _).setBox 0 0 (.slice none 0 0) rfl).setBox 0 1 (.slice none 0 0) rfl) 0 rfl (z:=.int .i64 1) Tryz.results72 rfl rfl rfl ⟨⟨_,rfl,_,_,0,0,rfl,OwnS.nil_ _ _ _,OwnS.nil_ _ _ _⟩,(((H.out.drewN _).setBox 0 0 (.slice none 0 0) rfl).setBox 0 1 (.slice none 0 0) rfl).base⟩
    have d2:decide (cc<0)=false:=by simpa using g2
    by_cases g3:a<b
    ·have d3:decide (a<b)=true:=by simpa using g3
     have HX:=Hd (HBAD.out (by omega))
     go_wp2_with fail
     go_quiet (fail)
     go_wp2;rw[HX.out];exact sep_ret2 (((H.out.drewN _).setBox 0 0 (.slice none 0 0) rfl).setBox 0 1 (.slice none 0 0) rfl) 0 rfl (z:=.int .i64 1) Tryz.results72 rfl rfl rfl ⟨⟨_,rfl,_,_,0,0,rfl,OwnS.nil_ _ _ _,OwnS.nil_ _ _ _⟩,(((H.out.drewN _).setBox 0 0 (.slice none 0 0) rfl).setBox 0 1 (.slice none 0 0) rfl).base⟩
    have d3:decide (a<b)=false:=by simpa using g3
    have hw:IntKind.i64.wrap (a-b)=a-b:=IntWalk.i64_in _ ⟨by omega,by omega⟩;by_cases g4:a-b<cc
    ·have d4:decide (a-b<cc)=true:=by simpa using g4
     have HX:=Hd (HBAD.out (by omega))
     go_wp2_with fail
     go_quiet (fail)
     go_wp2;rw[HX.out];exact sep_ret2 (((H.out.drewN _).setBox 0 0 (.slice none 0 0) rfl).setBox 0 1 (.slice none 0 0) rfl) 0 rfl (z:=.int .i64 1) Tryz.results72 rfl rfl rfl ⟨⟨_,rfl,_,_,0,0,rfl,OwnS.nil_ _ _ _,OwnS.nil_ _ _ _⟩,(((H.out.drewN _).setBox 0 0 (.slice none 0 0) rfl).setBox 0 1 (.slice none 0 0) rfl).base⟩
    have d4:decide (a-b<cc)=false:=by simpa using g4
    have HN:=Hd (fun (k:Nat) (a b c:Int) (hk:k<j+1) (h1:s[k]? = some a) (h2:f[k]? = some b) (h3:z[k]? = some c)=>show 0≤b∧0≤c∧b≤a∧c≤a-b by
     rcases Nat.lt_or_ge k j with h' | h'
     ·exact HA.out k a b c h' h1 h2 h3
     ·obtain rfl:k=j:=by omega
      rw[HE.out.1] at h1;rw[HE.out.2.1] at h2;rw[HE.out.2.2] at h3;injection h1 with h1;injection h2 with h2;injection h3 with h3;omega)
    clear HBAD HE r0 r1 fr0 fr1
    go_wp2_with fail
    go_quiet (fail)
    go_wp2;go_roundw
    case rel=>exact⟨j+1,by go_num,by omega,HN.out,_,rfl⟩
    case measure=>simp[intOf];omega
   ·obtain rfl:j=nz:=by omega
    have hok:cutOk s f z=true:=cutOk_all (by have:=HSL.out;have:=HFL.out;omega) (by have:=HSL.out;have:=HZL.out;omega) fun k a b c h1 h2 h3=>HA.out k a b c (by have:=(List.getElem?_eq_some_iff.1 h1).1;have:=HSL.out;omega) h1 h2 h3
    have HOK:=Hd hok;have hn4:j≤4:=by have:=(right_len HRT.out).1;have:=HSL.out;omega
    clear hok HA;replace H:=Hd (H.out.drewN q)
    go_wp2_with fail
    generalize w2.drewN q=w3 at *;refine(refFill_any 0 (H.out.oldInts 5 rfl) (by omega) ⟨by omega,by omega⟩).mono ?_;rintro e4 w4 ⟨⟨u,rfl,hu⟩,hb4⟩;obtain⟨S1,ns,sc,D1,N,dc,rfl,hs1,hd1,hsc,hdc,hNle,h5⟩:=H.out.addTen hb4 hu;rw[List.length_replicate] at hd1;rw[hd1] at h5;obtain⟨tgt,htg⟩:∃ t,cutD s d f z=t:=⟨_,rfl⟩;have HTL:=Hd (show tgt.length=N by rw[← htg,cutD,gen_length,hd1]);have HAT:=Hd (show ∀ i:Nat,i<N→tgt[i]? = some (num s d (addP (Sh.placeOf z i) f)) from fun i hi=>by rw[← htg,cutD];exact gen_at (by omega));have HSZ:=Hd (show ∀ i:Nat,i<N→(i:Int)<Sh.size z from fun i hi=>by have:=Sh.size_bd z;omega);have HQ:=Hd ((cutR_ok HRT.out HOK.out).trans (by rw[htg]));have h6:=h5.allocBox w4.heap.size 71 [.slice S1 ns sc,.slice D1 N dc] rfl;clear hu hb4 h5 htg hd1 hs1
    go_upto_region 12 with fail
    generalize w4.alloc (.cells #[.slice S1 ns sc,.slice D1 N dc] 71)=w5 at *;generalize w4.heap.size=gt at *;replace H:=Hd h6;clear h6;obtain ⟨o0,o1⟩:=H.out.z2 0 rfl
    go_wp2_with fail
    clear o0 o1
    go_loopw [85] (fun kv wr=>∃ i:Nat,kv=.int .i64 i∧i≤N∧Sep w wr [.box gt 71 [.slice S1 ns sc,.slice D1 N dc],.own 3 (.slice S1 ns sc) ns z,.own 2 (.slice D1 N dc) N (mix tgt (List.replicate N 0) i),.box (w.heap.size+1) 71 [.slice none 0 0,.slice none 0 0],.box w.heap.size 71 [.slice A j c,.slice B m e],.ints A j s,.ints B m d,.ints Af j f,.ints Az j z]) (fun kv _=>N - (intOf kv).toNat)
    case atStart=>exact⟨0,rfl,by omega,by rw[mix_zero];exact H.out⟩
    case round =>
     clear H;obtain⟨i,rfl,hi,hS⟩:=hrel;have H:=Hd hS;clear hS;by_cases hli:i<N
     ·have hiz:=HSZ.out i hli
      go_wp2_with fail
      refine(refPlace_own i (H.out.oldInts 8 rfl) ⟨by omega,by omega⟩).mono ?_;rintro e6 w6 ⟨⟨v,n6,rfl,hO⟩,hb6⟩;obtain⟨A6,c6,rfl,hc6,_,_⟩:=hO.form;obtain⟨_,hpl,hpw,_⟩:=placeOf_of hiz;have hp6:n6=j:=by have:=hO.len;have:=HZL.out;omega
      replace H:=Hd (H.out.addOwn hb6 hO);have HPF:=Hd hO.2.1;obtain⟨P,hP⟩:∃ P,Sh.placeOf z i=P:=⟨_,rfl⟩;rw[hP] at H HPF hpl hpw;have HP:=Hd hP;have HPL:=Hd (show P.length=j by have:=HZL.out;omega);have HPW:=Hd hpw;clear hb6 hO hP hpl hpw hc6;subst hp6
      go_wp2_with fail
      go_loopw [93] (fun kv wr=>∃ k:Nat,kv=.int .i64 k∧k≤n6∧Sep w wr [.own 3 (.slice A6 n6 c6) n6 (mix (addP P f) P k),.box gt 71 [.slice S1 ns sc,.slice D1 N dc],.own 3 (.slice S1 ns sc) ns z,.own 2 (.slice D1 N dc) N (mix tgt (List.replicate N 0) i),.box (w.heap.size+1) 71 [.slice none 0 0,.slice none 0 0],.box w.heap.size 71 [.slice A n6 c,.slice B m e],.ints A n6 s,.ints B m d,.ints Af n6 f,.ints Az n6 z]) (fun kv _=>n6-(intOf kv).toNat)
      case atStart=>exact⟨0,rfl,by omega,by rw[mix_zero];exact H.out⟩
      case round =>
       clear H;obtain⟨k,rfl,hk,hS⟩:=hrel;by_cases hlk:k<n6
       ·obtain⟨gp,cp,hv,hOp⟩:=(hS.ownS 0 rfl).own (by omega);injection hv with hv1 _ hv3
        subst hv1;subst hv3;obtain⟨x,hx⟩:=getElem_of (l:=P) (k:=k) (by have:=HPL.out;omega);obtain⟨fa,y,hfA,_,hy,hcy,hfy⟩:=(hS.oldInts 8 rfl).at_ (k:=k) hlk;subst hfA;have hal:(addP P f).length=P.length:=addP_length (by have:=HPL.out;have:=HFL.out;omega);have hcx:=hOp.cell (j:=k) (x:=x) (by rw[mix_at hal (by have:=HPL.out;omega)];exact hx);have hfr:=hOp.frozen k;obtain⟨zc,hzc⟩:=getElem_of (l:=z) (k:=k) (by have:=HZL.out;omega);obtain⟨sa,hsa⟩:=getElem_of (l:=s) (k:=k) (by have:=HSL.out;omega);have hb1:=Sh.within_at HPW.out hzc hx;have hb2:=cutOk_at HOK.out hsa hy hzc;have hb3:=(Sh.right_iff.1 (right_of HRT.out)).2.1 sa (List.mem_of_getElem? hsa);have hS2:=hS.store 0 k (x:=x+y) ⟨by omega,by omega⟩ rfl;have hw:IntKind.i64.wrap (x+y)=x+y:=IntWalk.i64_in _ ⟨by omega,by omega⟩;have HS2:=Hd (show Sep w (wr.setCell ⟨gp,k,none⟩ (.int .i64 (x+y))) (.own 3 (.slice (some ⟨gp,0,none⟩) n6 c6) n6 (mix (addP P f) P (k+1))::_) by rw[← mix_set hal (addP_at hx hy)];exact hS2);clear hS hS2 hOp hx hy hzc hsa hal hfy hb1 hb2 hb3
        go_upto_region 19 with fail
        go_still_tail 12,(by kernel_rfl)
        change wpList _ _ _ _ _ wr.drew;have hcx1:wr.drew.cell? ⟨gp,k,none⟩=some (.int .i64 x):=hcx;have hfr1:wr.drew.frozen? ⟨gp,k,none⟩=false:=hfr;go_wp2;go_roundw
        case rel=>exact⟨k+1,by go_num,by omega,HS2.out.drew⟩
        case measure=>simp[intOf];omega
       ·have hkn:n6=k:=by omega
        subst hkn;rw[show mix (addP P f) P n6=addP P f by have:=mix_full (t:=addP P f) (o:=P) (addP_length (by have:=HPL.out;have:=HFL.out;omega));rwa [HPL.out] at this] at hS;obtain⟨gb,cb,hv,hO⟩:=(hS.ownS 3 rfl).own (by omega);injection hv with hv1 _ hv3
        subst hv1;subst hv3;have H:=Hd hS;obtain ⟨o0,o1⟩:=H.out.z2 1 rfl;obtain ⟨t0,t1⟩:=H.out.z2 5 rfl;have hwi:=cut_within HOK.out hiz;rw[HP.out] at hwi;obtain⟨X,hX⟩:∃ X,num s d (addP P f)=X:=⟨_,rfl⟩;have hfX:Fits X:=by rw[← hX];exact num_fits HFD.out
        have C1:=ref4Number_any (w:=wr.drew) (c:=c6) (ten_mk (H.out.oldInts 6 rfl) hnc (H.out.oldInts 7 rfl) hme) (H.out.ownInts 0 rfl).2.2 HRT.out hwi.1 hwi.2;rw[hX] at C1;have HTX:=Hd (show tgt[i]? = some X by rw[HAT.out i hli,HP.out,hX]);clear hS hO hwi hX hlk o0;have HM:=Hd (mix_rep (c:=0) HTL.out hli);have HFX:=Hd hfX;clear hfX
        go_upto_region 21 with fail
        go_region_held3 (fun w' => w'.cell? ⟨gt,1,none⟩=some (.slice (some ⟨gb,0,none⟩) N dc)∧w'.cell? ⟨w.heap.size,0,none⟩=some (.slice A n6 c)∧w'.cell? ⟨w.heap.size,1,none⟩=some (.slice B m e)) (go_keep)
         (first|(go_at_call 97;refine C1.mono ?_;rintro e7 w7 ⟨rfl,hb7⟩;have H7:=Hd (H.out.drew.below hb7);have m0:=H7.out.cell 1 1 rfl rfl;obtain ⟨m1,m2⟩:=H7.out.z2 5 rfl;have hcs:=(H7.out.own 3 rfl).cell HM.out;have hfs:=(H7.out.own 3 rfl).frozen i;have HS7:=Hd (H7.out.store 3 i HFX.out rfl);have k0:(w7.setCell ⟨gb,i,none⟩ (.int .i64 X)).cell? ⟨gt,1,none⟩=some (.slice (some ⟨gb,0,none⟩) N dc):=HS7.out.cell 1 1 rfl rfl;have k1:(w7.setCell ⟨gb,i,none⟩ (.int .i64 X)).cell? ⟨w.heap.size,0,none⟩=some (.slice A n6 c):=HS7.out.cell 5 0 rfl rfl;have k2:(w7.setCell ⟨gb,i,none⟩ (.int .i64 X)).cell? ⟨w.heap.size,1,none⟩=some (.slice B m e):=HS7.out.cell 5 1 rfl rfl))
        clear o1 t0 t1 m0 m1 m2 k0 k1 k2 hcs hfs;go_wp2;go_roundw
        case rel=>exact⟨i+1,by go_num,by omega,by rw[← mix_step HTL.out HTX.out];exact HS7.out.sub [1,2,3,4,5,6,7,8,9] rfl (by decide)⟩
        case measure=>simp[intOf];omega
     ·have hin:N=i:=by omega
      subst hin;rw[mix_end HTL.out] at H;obtain ⟨o0,o1⟩:=H.out.z2 0 rfl;obtain ⟨r0,r1⟩:=H.out.z2 3 rfl;obtain ⟨fr0,fr1⟩:=H.out.f2 3 rfl;go_wp2;rw[HQ.out];exact sep_ret2 ((H.out.setBox 3 0 (.slice S1 ns sc) rfl).setBox 3 1 (.slice D1 N dc) rfl) 3 rfl (z:=.int .i64 0) Tryz.results72 rfl rfl rfl ⟨⟨_,rfl,_,_,ns,N,rfl,((H.out.setBox 3 0 (.slice S1 ns sc) rfl).setBox 3 1 (.slice D1 N dc) rfl).ownS 1 rfl,((H.out.setBox 3 0 (.slice S1 ns sc) rfl).setBox 3 1 (.slice D1 N dc) rfl).ownS 2 rfl⟩,((H.out.setBox 3 0 (.slice S1 ns sc) rfl).setBox 3 1 (.slice D1 N dc) rfl).base⟩
end Go.Proofs.YtnnmplkgenhofaaGreat
