import Derived.Test.YtnnmplkgenhofaaGreatPbm
set_option maxRecDepth 100000
set_option maxHeartbeats 12800000
namespace Go.Proofs.YtnnmplkgenhofaaGreat
open Go.RowKit
theorem gWindowed_any {w:World} {A B:Option Addr} {n c m d:Nat} {s a:List Int} (how:Int) (hS:Ints w A n s) (hA:Ints w B m a) (hr:Sh.right s=true) :
  Calls Tryz.prog 63 #[.int .i64 how,.slice A n c,.slice B m d] w (ListPost w (windowedP how s a)):=by
 have HSL:=Hd hS.len;have HAL:=Hd hA.len;have hnle:=hS.le;have hmle:=hA.le;have hn4:n≤4:=by have:=(Sh.right_iff.1 hr).1;have:=HSL.out;omega
 have C1:=fdRight_any how w;by_cases hm:m=3
 ·have dm:((m:Int) != 3)=false:=by simp;omega
  have HM:=Hd hm
  cases hh:howOk how with
  | false =>
   rw[hh] at C1;have HX:=Hd (show windowedP how s a=(1,[]) by rw[windowedP,if_neg];rw[hh];simp);clear hh hA hS hr hm
   go_enter Tryz.func63,Tryz.ntmps63
   go_wp2_with fail
   refine C1.mono ?_;rintro e1 w1 ⟨rfl,rfl⟩;clear C1;go_wp2;go_ret2
   exact listPost_no HX.out (Below.refl _ _)
  | true =>
   rw[hh] at C1;obtain⟨pa,x,hpA,hpb,hx,hcx,hfx⟩:=hA.at_ (k:=0) (by omega);obtain⟨pa1,y,hpA1,hpb1,hy,hcy,hfy⟩:=hA.at_ (k:=1) (by omega);obtain⟨pa2,z,hpA2,hpb2,hz,hcz,hfz⟩:=hA.at_ (k:=2) (by omega);subst hpA;injection hpA1 with hpA1;subst hpA1
   injection hpA2 with hpA2;subst hpA2
   rw[add_0] at hcx;simp[Addr.add] at hcy;simp[Addr.add] at hcz
   have HPY:=Hd (show winAx s x=true→winOk y z=true→windowedP how s a=(0,winS s x.toNat y z) from fun h1 h2=>by
    rw[windowedP,getD0 hx,getDk hy,getDk hz,if_pos ⟨by have:=HAL.out;have:=HM.out;omega,hh,h1,h2⟩])
   have HPN:=Hd (show ¬ (winAx s x=true∧winOk y z=true)→windowedP how s a=(1,[]) from fun h=>by
    rw[windowedP,getD0 hx,getDk hy,getDk hz,if_neg (fun hc=>h ⟨hc.2.2.1,hc.2.2.2⟩)])
   have hj0:(0:Int)<m:=by omega
   have hj1:(1:Int)<m:=by omega
   have hj2:(2:Int)<m:=by omega
   have hl0:0<m:=by omega
   have hl1:1<m:=by omega
   have hl2:2<m:=by omega
   have HFY:=Hd hfy;have HFZ:=Hd hfz;have HRR:=Hd hr;have h1:=(Sep.nil w).old hS;clear hx hy hz hfx hfy hfz hm hh hA hS hr;have hax:winAx s x=axF x n:=by rw[winAx,axF,HSL.out]
   have C2:=fun w=>isAxis_any x (A:=A) (n:=n) (c:=c) w
   cases hax2:axF x n with
   | false =>
    simp only[hax2] at C2;have HX:=Hd (HPN.out (fun hc=>by rw[hax,hax2] at hc;cases hc.1));clear hax hax2
    go_enter Tryz.func63,Tryz.ntmps63
    go_wp2_with fail
    refine C1.mono ?_;rintro e1 w1 ⟨rfl,rfl⟩;clear C1
    go_upto_region 3 with fail
    go_quiet (fail)
    have H:=Hd (h1.drewN nq);generalize w.drewN nq=w1 at *;clear h1 hcx hcy hcz
    go_wp2_with fail
    refine(C2 _).mono ?_;rintro e1 w1 ⟨rfl,rfl⟩;clear C2;go_wp2;go_ret2
    exact listPost_no HX.out H.out.base
   | true =>
    simp only[hax2] at C2;obtain⟨hx0,hxn⟩:=axF_iff.1 hax2;obtain⟨x,rfl⟩:=Int.eq_ofNat_of_zero_le hx0;have hxn2:x<n:=by omega
    have HAX:=Hd (show winAx s (x:Int)=true by rw[hax,hax2]);clear hax hax2;have HBAD:=Hd (show ¬ (1≤y∧y≤32∧1≤z∧z≤32)→windowedP how s a=(1,[]) from fun hb=>HPN.out (fun hc=>hb (winOk_iff.1 hc.2)))
    go_enter Tryz.func63,Tryz.ntmps63
    go_wp2_with fail
    refine C1.mono ?_;rintro e1 w1 ⟨rfl,rfl⟩;clear C1
    go_upto_region 3 with fail
    go_quiet (fail)
    have H:=Hd (h1.drewN nq);generalize w.drewN nq=w1 at *;clear h1 hcx hcy hcz
    go_wp2_with fail
    refine(C2 _).mono ?_;rintro e1 w1 ⟨rfl,rfl⟩;clear C2;by_cases g1:y<1
    ·have d1:decide (y<1)=true:=by simpa using g1
     have HX:=Hd (HBAD.out (by omega));clear HBAD;go_wp2;go_ret2;exact listPost_no HX.out H.out.base
    have d1:decide (y<1)=false:=by simpa using g1
    by_cases g2:32<y
    ·have d2:decide (32<y)=true:=by simpa using g2
     have HX:=Hd (HBAD.out (by omega));clear HBAD;go_wp2;go_ret2;exact listPost_no HX.out H.out.base
    have d2:decide (32<y)=false:=by simpa using g2
    by_cases g3:z<1
    ·have d3:decide (z<1)=true:=by simpa using g3
     have HX:=Hd (HBAD.out (by omega));clear HBAD;go_wp2;go_ret2;exact listPost_no HX.out H.out.base
    have d3:decide (z<1)=false:=by simpa using g3
    by_cases g4:32<z
    ·have d4:decide (32<z)=true:=by simpa using g4
     have HX:=Hd (HBAD.out (by omega));clear HBAD;go_wp2;go_ret2;exact listPost_no HX.out H.out.base
    have d4:decide (32<z)=false:=by simpa using g4
    have HX:=Hd (HPY.out HAX.out (winOk_iff.2 ⟨by omega,by omega,by omega,by omega⟩));clear HBAD HPY HPN;rw[Int.toNat_natCast] at HX;have C3:=copied_any (c:=c) (H.out.oldInts 0 rfl) (by omega)
    go_wp2_with fail
    refine C3.mono ?_;rintro e2 w2 ⟨⟨v,rfl,hO⟩,hb⟩;obtain⟨g,c2,hv,hOw⟩:=hO.own (by omega);subst hv;replace H:=Hd (H.out.addOwn hb hO);clear C3 hO hOw hb;obtain⟨ps,q,hpS,hpb3,hq,hcq,hfq⟩:=(H.out.oldInts 1 rfl).at_ (k:=x) hxn2;subst hpS;have HQ:=Hd hq;have hO:=H.out.own 0 rfl;have hfr:=hO.frozen x;have hco:=hO.cell (j:=x) hq;have C4:=fun w=>wdOut_any q y z hfq HFY.out HFZ.out w
    have hqq:s.getD x 0=q:=getDk hq;have hbn:=(Sh.right_iff.1 HRR.out).2.1 q (List.mem_of_getElem? hq);have hbw:=winN_bd (n:=q) (wide:=y) (apart:=z);have hst:=H.out.store 0 x (x:=winN q y z) (by have:=hbw.2 hbn.1;exact⟨by omega,by omega⟩) rfl;have HST:=Hd hst;have HX2:=Hd (show windowedP how s a=(0,s.set x (winN q y z)) by rw[HX.out,winS,hqq]);clear hO hst hq hfq hqq hbn hbw
    go_wp2_with fail
    refine(C4 _).mono ?_;rintro e4 w4 ⟨rfl,rfl⟩;clear C4;go_wp2;go_ret2;exact listPost_yes HX2.out (HST.out.ownS 0 rfl) HST.out.base
 ·have dm:((m:Int) != 3)=true:=by simp;omega
  have HX:=Hd (show windowedP how s a=(1,[]) by rw[windowedP,if_neg];rintro⟨h1,_⟩;have:=HAL.out;omega);clear hm hA hS hr C1
  go_enter Tryz.func63,Tryz.ntmps63
  go_wp2;go_ret2;exact listPost_no HX.out (Below.refl _ _)
theorem gCommon_any {w:World} {A:Option Addr} {n c:Nat} {s:List Int} {L:List (List Int)} (hL:Lils w A n (s::L)) (hc:n≤c) (hs4:s.length≤4) :
  Calls Tryz.prog 64 #[.slice A n c] w (ListPost w (commonP (s::L))):=by
 obtain⟨A2,hsl,hL2⟩:=run_drop1L hL hc;obtain⟨a,B,m,c0,rfl,hab,hca,hmc,hI⟩:=hL.head;have HNL:=Hd (show L.length=n-1 from hL2.1);have hn9:=hL.2.1;have hn1:1≤n:=by have:=hL.1;rw[List.length_cons] at this;omega
 have HL2:=Hd hL2;have HI:=Hd hI;have hm4:m≤4:=by have:=hI.len;omega
 have h1:=Sep.nil w;have hj0:(0:Int)<n:=by omega
 have hl0:0<n:=by omega
 have HCA:=Hd hca;clear hL hL2 hI hca
 go_enter Tryz.func64,Tryz.ntmps64
 go_wp2_with fail
 go_loopw [9] (fun iv wr=>∃ k:Nat,iv=.int .i64 k∧k≤n-1∧(∀(j:Nat) (x:List Int),j<k→L[j]? = some x→x=s)∧Sep w wr []) (fun iv _=>n-(intOf iv).toNat)
 case atStart=>exact⟨0,rfl,by omega,fun j x hj=>by omega,h1⟩
 case round =>
  clear h1;obtain⟨k,rfl,hk,hall,hSp⟩:=hrel;have H:=Hd hSp;have HALL:=Hd hall;clear hSp hall;by_cases hlt:k<n-1
  ·obtain⟨x,hx⟩:∃ x,L[k]? = some x:=⟨_,List.getElem?_eq_getElem (by have:=HNL.out;omega)⟩;obtain⟨a2,B2,m2,c2,hA2,hb2,hca2,hmc2,hI2⟩:=HL2.out.2.2 k x hx;subst hA2;have hcx:=H.out.oldCell (p:=a2.add k) (blk_add hb2) hca2;have hc0:=H.out.oldCell hab HCA.out;have HX:=Hd hx;have C1:=same_any (c:=c2) (d:=c0) (H.out.oldI hI2) (H.out.oldI HI.out);clear hx hca2 hI2
   cases he:(x==s) with
   | false =>
    rw[he] at C1
    have HQ:=Hd (show commonP (s::L)=(13,[]) by
     rw[commonP,if_neg];intro h;have h9:=h x (List.mem_cons_of_mem _ (List.mem_of_getElem? HX.out));have h9:x=s:=h9
     rw[h9] at he;simp at he)
    clear he
    go_wp2_with fail
    refine C1.mono ?_;rintro e1 w1 ⟨rfl,rfl⟩;clear C1;go_wp2;go_ret2
    exact listPost_no HQ.out H.out.base
   | true =>
    rw[he] at C1;have HE:=Hd (show x=s from eq_of_beq he);clear he
    go_wp2_with fail
    refine C1.mono ?_;rintro e1 w1 ⟨rfl,rfl⟩;clear C1 hcx hc0;go_wp2;go_roundw
    case rel=>exact⟨k+1,by go_num,by omega,fun j y hj hy=>by
     rcases Nat.lt_or_ge j k with h' | h'
     ·exact HALL.out j y h' hy
     ·obtain rfl:j=k:=by omega
      rw[HX.out] at hy;injection hy with hy;rw[← hy];exact HE.out,H.out⟩
    case measure=>simp[intOf];omega
  ·have HQ:=Hd (show commonP (s::L)=(0,s) by
    rw[commonP,if_pos]
    ·rfl
    ·intro x hx
     show x=s
     rcases List.mem_cons.1 hx with rfl|hx
     ·rfl
     ·obtain⟨j,hj⟩:=List.getElem?_of_mem hx
      exact HALL.out j x (by have:=(List.getElem?_eq_some_iff.1 hj).1;have:=HNL.out;omega) hj)
   have hc0:=H.out.oldCell hab HCA.out;have C3:=copied_any (c:=c0) (H.out.oldI HI.out) (by omega)
   go_wp2_with fail
   refine C3.mono ?_;rintro e2 w2 ⟨⟨v,rfl,hO⟩,hb⟩;have H2:=Hd (H.out.addOwn hb hO);clear C3 hO hb hc0;go_wp2;go_ret2;exact listPost_yes HQ.out (H2.out.ownS 0 rfl) H2.out.base
theorem take_set_ {l:List Int} {ax:Nat} {z:Int}:(l.set ax z).take ax=l.take ax:=by
 apply List.ext_getElem?;intro i;rw[List.getElem?_take,List.getElem?_take]
 split
 ·rw[List.getElem?_set,if_neg (by omega)]
 ·rfl
theorem drop_set_ {l:List Int} {ax:Nat} {z:Int}:(l.set ax z).drop (ax+1)=l.drop (ax+1):=by
 apply List.ext_getElem?;intro i;rw[List.getElem?_drop,List.getElem?_drop,List.getElem?_set,if_neg (by omega)]
theorem fit_iff {s t:List Int} {ax:Nat} (h:t.length=s.length):fitAx s ax t↔t.take ax=s.take ax∧t.drop (ax+1)=s.drop (ax+1):=by
 constructor
 ·intro hf
  have key:∀ i,i≠ax→t[i]? = s[i]? := fun i hi=>by
   rcases Nat.lt_or_ge i s.length with hl|hl
   ·obtain⟨x,hx⟩:=getElem_of (l:=t) (k:=i) (by omega);obtain⟨y,hy⟩:=getElem_of hl;rw[hx,hy,hf.2 i x y hi hx hy]
   ·rw[List.getElem?_eq_none (by omega),List.getElem?_eq_none hl]
  constructor
  ·apply List.ext_getElem?;intro i;rw[List.getElem?_take,List.getElem?_take]
   split
   ·exact key i (by omega)
   ·rfl
  ·apply List.ext_getElem?;intro i;rw[List.getElem?_drop,List.getElem?_drop];exact key _ (by omega)
 ·rintro⟨h1,h2⟩;refine⟨h,fun k x y hk hx hy=>?_⟩;rcases Nat.lt_or_ge k ax with hl|hl
  ·have e:=congrArg (fun l:List Int=>l[k]?) h1;simp only[List.getElem?_take,if_pos hl] at e;rw[hx,hy] at e;injection e
  ·have e:=congrArg (fun l:List Int=>l[k-(ax+1)]?) h2;simp only[List.getElem?_drop] at e;rw[show ax+1+(k-(ax+1))=k by omega,hx,hy] at e;injection e
theorem totL_take {ax:Nat} {l:List (List Int)} {i:Nat} {t:List Int} {x:Int} (h:l[i]? = some t) (g:t[ax]? = some x):totL ax (l.take (i+1))=totL ax (l.take i)+x:=by
 rw[totL,totL,List.take_add_one,h,List.foldl_append];simp[List.getD_eq_getElem?_getD,g]
theorem gJoined_any {w:World} {A B:Option Addr} {n c m d:Nat} {s a:List Int} {L:List (List Int)} (hL:Lils w A n (s::L)) (hc:n≤c) (hA:Ints w B m a) (hR:∀ x∈s::L,Sh.right x=true) :
  Calls Tryz.prog 60 #[.slice A n c,.slice B m d] w (ListPost w (joinedP (s::L) a)):=by
 obtain⟨a0,B0,ns,c0,rfl,hab,hca,hmc,hI⟩:=hL.head;have HAL:=Hd hA.len;have HSL:=Hd hI.len;have hmle:=hA.le;have hn9:=hL.2.1;have hn1:1≤n:=by have:=hL.1;rw[List.length_cons] at this;omega
 have hns4:ns≤4:=by have:=(Sh.right_iff.1 (hR s (by simp))).1;have:=HSL.out;omega
 have hj0:(0:Int)<n:=by omega
 have hl0:0<n:=by omega
 have h1:=Sep.nil w;have HHD:=Hd (show(s::L).getD 0 []=s from rfl);by_cases hm:m=1
 ·have dm:((m:Int) != 1)=false:=by simp;omega
  have HM:=Hd hm;obtain⟨pa,x,hpA,hpb,hx,hcx,hfx⟩:=hA.at_ (k:=0) (by omega);subst hpA;rw[add_0] at hcx;have hk0:(0:Int)<m:=by omega
  have hk1:0<m:=by omega
  have HX0:=Hd (getD0 hx);clear hx hfx hm hA;have C2:=fun q=>isAxis_any x (A:=B0) (n:=ns) (c:=c0) (w.drewN q)
  cases hax:axF x ns with
  | false =>
   simp only[hax] at C2
   have HX:=Hd (show joinedP (s::L) a=(1,[]) by
    rw[joinedP,HHD.out,HX0.out,if_neg];rintro⟨_,h1,h2⟩
    rw[axF_iff.2 ⟨h1,by have:=HSL.out;omega⟩] at hax;cases hax)
   have HC2:=Hd C2;clear hax hL hI C2
   go_enter Tryz.func60,Tryz.ntmps60
   go_upto_region 1 with fail
   go_quiet (first|(go_at_call 86;with_reducible exact quietS (HC2.out _)))
   go_wp2;go_ret2
   exact listPost_no HX.out (h1.drewN _).base
  | true =>
   simp only[hax] at C2;obtain⟨hx0,hxn⟩:=axF_iff.1 hax;obtain⟨ax,rfl⟩:=Int.eq_ofNat_of_zero_le hx0;have hxn2:ax<ns:=by omega
   have HPY:=Hd (show FitAll ax (s::L)→joinedP (s::L) a=ownP (s.set ax (totL ax (s::L))) from fun h=>by
    rw[joinedP,HHD.out,HX0.out,if_pos ⟨by have:=HAL.out;have:=HM.out;omega,hx0,by have:=HSL.out;omega⟩,Int.toNat_natCast,if_pos h])
   have HPN:=Hd (show ¬ FitAll ax (s::L)→joinedP (s::L) a=(13,[]) from fun h=>by
    rw[joinedP,HHD.out,HX0.out,if_pos ⟨by have:=HAL.out;have:=HM.out;omega,hx0,by have:=HSL.out;omega⟩,Int.toNat_natCast,if_neg h])
   obtain⟨A2,hsl,hL2⟩:=run_drop1L hL hc;have HL2:=Hd hL2;have HNL:=Hd (show L.length=n-1 from hL2.1);have HI:=Hd hI;have HC2:=Hd C2;have HR:=Hd hR;clear hax hL hI hL2 C2 hx0 hxn
   go_enter Tryz.func60,Tryz.ntmps60
   go_upto_region 1 with fail
   go_quiet (first|(go_at_call 86;with_reducible exact quietS (HC2.out _)))
   have H:=Hd (h1.drewN nq);generalize w.drewN nq=w1 at *;have hca1:=H.out.oldCell hab hca;have hcx1:=H.out.oldCell hpb hcx;have HCA:=Hd hca;have HCX:=Hd hcx;clear h1 HC2 hca hcx;have H0:=Hd H.out.drew
   go_upto_region 3 with fail
   clear hca1 hcx1;have i0:=H0.out.oldCell hab HCA.out;have i1:=H0.out.oldCell hpb HCX.out;refine wp_region_held_drew (S:=(fun w' => w'.cell? a0=some (.slice B0 ns c0)∧w'.cell? pa=some (.int .i64 (ax:Int)))) (by kernel_rfl) ?_ (fun hq_=>?_)
   ·exact⟨i0,i1⟩
   refine zW 0 hq_ ?_
   try simp only[pA]
   refine zW 1 hq_ ?_
   try simp only[pA]
   refine zW 2 hq_ ?_
   try simp only[pA]
   refine zW 4 hq_ ?_
   try simp only[pA]
   refine zW 5 hq_ ?_
   try simp only[pA]
   refine zW 6 hq_ ?_
   try simp only[pA]
   refine e1 3 fun K hK=>?_
   first|(refine effU ?_ ?_;(focus rfl))|(go_simp;(go_at_call 46;refine(copied_any (c:=c0) (H0.out.oldI HI.out) (by omega)).mono ?_;rintro e3 w3 ⟨⟨v3,rfl,hO3⟩,hb3⟩;have H3:=Hd (H0.out.addOwn hb3 hO3);have m0:=H3.out.oldCell hab HCA.out;have m1:=H3.out.oldCell hpb HCX.out;clear hb3 hO3);go_wp2_with fail)
   refine zK hK ?_ ⟨m0,m1⟩;clear hK K hq_;intro hq_
   try simp only[pA]
   refine zW 7 hq_ ?_
   try simp only[pA]
   refine zW 8 hq_ ?_
   try simp only[pA]
   refine wpAnyH_done (by kernel_rfl) ?_ _;obtain⟨g,ct,hv,hOw⟩:=(H3.out.ownS 0 rfl).own (by omega);subst hv;have hcap:=hOw.cap;clear hOw m0 m1 i0 i1 H H0
   go_wp2_with fail
   go_loopw [33] (fun iv wr=>∃(k:Nat) (T:Int),iv=.int .i64 k∧k≤n-1∧T=totL ax ((s::L).take (k+1))∧0≤T∧T≤32*((k:Int)+1)∧(∀(j:Nat) (x:List Int),j<k→L[j]? = some x→fitAx s ax x)∧Sep w wr [.own 3 (.slice (some ⟨g,0,none⟩) ns ct) ns (s.set ax T)]) (fun iv _=>n-(intOf iv).toNat)
   case atStart =>
    obtain⟨z,hz⟩:=getElem_of (l:=s) (k:=ax) (by have:=HSL.out;omega);have hb:=(Sh.right_iff.1 (HR.out s (by simp))).2.1 z (List.mem_of_getElem? hz);have hT:totL ax ((s::L).take (0+1))=z:=by simp[totL,List.getD_eq_getElem?_getD,hz]
    exact⟨0,z,rfl,by omega,hT.symm,hb.1,by have:=hb.2;omega,fun j x hj=>by omega,by rw[set_eq hz];exact H3.out⟩
   case round =>
    clear H3;obtain⟨k,T,rfl,hk,hT,hT0,hT1,hall,hSp⟩:=hrel;have H:=Hd hSp;have HALL:=Hd hall;have HT:=Hd hT;clear hSp hall hT;by_cases hlt:k<n-1
    ·obtain⟨y,hy⟩:∃ y,L[k]? = some y:=⟨_,List.getElem?_eq_getElem (by have:=HNL.out;omega)⟩;obtain⟨a2,B2,m2,c2,hA2,hb2,hca2,hmc2,hI2⟩:=HL2.out.2.2 k y hy;subst hA2;have hcy:=H.out.oldCell (p:=a2.add k) (blk_add hb2) hca2;have HY:=Hd hy;have HYM:=Hd (List.mem_cons_of_mem s (List.mem_of_getElem? hy));have HYL:=Hd hI2.len;have HI2:=Hd (H.out.oldI hI2);clear hy hca2 hI2;by_cases hmn:m2=ns
     ·subst hmn;have hsl1:=run_takeG HI2.out (k:=ax) (by omega) hmc2;have hsl2:=run_takeG (H.out.ownInts 0 rfl).2.2 (k:=ax) (by omega) hcap;obtain⟨A4,hsl3,hI4⟩:=run_dropK ((ax:Int)+1) (k:=ax+1) (by omega) HI2.out (by omega) (by omega) hmc2;obtain⟨A5,hsl4,hI5⟩:=run_dropK ((ax:Int)+1) (k:=ax+1) (by omega) (H.out.ownInts 0 rfl).2.2 (by omega) (by omega) hcap;have hI6:=HI2.out.take (k:=ax) (by omega);have hI7:=(H.out.ownInts 0 rfl).2.2.take (k:=ax) (by omega);rw[take_set_] at hI7;rw[drop_set_] at hI5;have C3:=fun q=>same_any (c:=c2) (d:=ct) (hI6.drewN q) (hI7.drewN q)
      have C4:=fun q=>same_any (c:=c2-(ax+1)) (d:=ct-(ax+1)) (hI4.drewN q) (hI5.drewN q)
      have hwk:IntKind.i64.wrap ((ax:Int)+1)=(ax:Int)+1:=IntWalk.i64_in _ ⟨by omega,by omega⟩;have HFI:=Hd (fit_iff (s:=s) (t:=y) (ax:=ax) (by have:=HYL.out;have:=HSL.out;omega));have HNO:=Hd (show ¬ fitAx s ax y→joinedP (s::L) a=(13,[]) from fun h=>HPN.out (fun hf=>h (hf y HYM.out)));have hax1:ax+1≤m2:=by omega
      have hax2:ax+1≤c2:=by omega
      have hax3:ax+1≤ct:=by omega
      have hax4:ax≤c2:=by omega
      have hax5:ax≤ct:=by omega
      clear hI4 hI5 hI6 hI7
      cases RP:(y.take ax==s.take ax) with
      | false =>
       simp only[RP] at C3;replace C3:=Hd C3;have HX:=Hd (HNO.out (fun hf=>by have:=(HFI.out.1 hf).1;rw[this] at RP;simp at RP));clear C4 RP
       go_wp2_with fail
       go_quiet (first|(go_at_call 89;with_reducible exact quietS (C3.out _)))
       go_wp2;go_ret2
       exact listPost_no HX.out (H.out.drewN _).base
      | true =>
       simp only[RP] at C3;replace C3:=Hd C3;have HRP:=Hd (eq_of_beq RP);clear RP
       cases RD:(y.drop (ax+1)==s.drop (ax+1)) with
       | false =>
        simp only[RD] at C4;replace C4:=Hd C4;have HX:=Hd (HNO.out (fun hf=>by have:=(HFI.out.1 hf).2;rw[this] at RD;simp at RD));clear RD
        go_wp2_with fail
        go_quiet (first|(go_at_call 89;with_reducible exact quietS (C3.out _))|(go_at_call 89;with_reducible exact quietS (C4.out _)))
        go_wp2;go_ret2
        exact listPost_no HX.out (H.out.drewN _).base
       | true =>
        simp only[RD] at C4;replace C4:=Hd C4;have HFT:=Hd (HFI.out.2 ⟨HRP.out,eq_of_beq RD⟩);clear RD
        go_wp2_with fail
        go_quiet (first|(go_at_call 89;with_reducible exact quietS (C3.out _))|(go_at_call 89;with_reducible exact quietS (C4.out _)))
        clear C3 C4 hsl1 hsl2 hsl3 hsl4 hwk hcy;replace H:=Hd (H.out.drewN nq);replace HI2:=Hd (HI2.out.drewN nq);generalize wr.drewN nq=w8 at *;obtain⟨py,z,hpY,hpb2,hz,hcz,hfz⟩:=HI2.out.at_ (k:=ax) (by omega);subst hpY;have hO:=H.out.own 0 rfl;have hfr:=hO.frozen ax;have hco:=hO.cell (j:=ax) (x:=T) (by rw[List.getElem?_set,if_pos rfl,if_pos (by have:=HSL.out;omega)]);have hzb:=(Sh.right_iff.1 (HR.out y HYM.out)).2.1 z (List.mem_of_getElem? hz);obtain⟨hz0,hz1⟩:=hzb;have HT2:=Hd (show T+z=totL ax ((s::L).take (k+1+1)) by rw[totL_take (l:=s::L) (i:=k+1) (t:=y) HY.out hz,HT.out]);have hst:=H.out.store 0 ax (x:=T+z) ⟨by omega,by omega⟩ rfl;rw[List.set_set] at hst;have HST:=Hd hst;have hw3:IntKind.i64.wrap (T+z)=T+z:=IntWalk.i64_in _ ⟨by omega,by omega⟩;clear hO hst hz hfz
        go_upto_region 9 with fail
        go_still_tail 10,(by kernel_rfl)
        change wpList _ _ _ _ _ w8.drew;have hco1:w8.drew.cell? ⟨g,ax,none⟩=some (.int .i64 T):=hco;have hfr1:w8.drew.frozen? ⟨g,ax,none⟩=false:=hfr;go_wp2;go_roundw
        case rel=>exact⟨k+1,T+z,by go_num,by omega,HT2.out,by omega,by omega,fun j u hj hu=>by
         rcases Nat.lt_or_ge j k with h' | h'
         ·exact HALL.out j u h' hu
         ·obtain rfl:j=k:=by omega
          rw[HY.out] at hu;injection hu with hu;rw[← hu];exact HFT.out,HST.out.drew⟩
        case measure=>simp[intOf];omega
     ·have dmn:((m2:Int) != (ns:Int))=true:=by simp;omega
      have HX:=Hd (HPN.out (fun hf=>hmn (by have:=(hf y HYM.out).1;have h9:y.length=s.length:=this;have:=HYL.out;have:=HSL.out;omega)));clear hmn
      go_wp2_with fail
      go_quiet (fail)
      go_wp2;go_ret2;exact listPost_no HX.out (H.out.drewN _).base
    ·have HFA:=Hd (show FitAll ax (s::L) from fun x hx=>by
      show fitAx s ax x
      rcases List.mem_cons.1 hx with rfl|hx
      ·exact⟨rfl,fun k u v hk hu hv=>by rw[hu] at hv;injection hv⟩
      ·obtain⟨j,hj⟩:=List.getElem?_of_mem hx
       exact HALL.out j x (by have:=(List.getElem?_eq_some_iff.1 hj).1;have:=HNL.out;omega) hj)
     have HX:=Hd (show joinedP (s::L) a=ownP (s.set ax T) by
      rw[HPY.out HFA.out,HT.out,List.take_of_length_le (by rw[List.length_cons];have:=HNL.out;omega)])
     have C3:=gOwn_any (c:=ct) (H.out.ownInts 0 rfl).2.2
     go_wp2_with fail
     refine C3.mono ?_;rintro e2 w2 ⟨⟨v,j,rfl,hO⟩,hb⟩;have H2:=Hd (H.out.addOwn hb hO);clear C3 hO hb;go_wp2;go_ret2;rw[HX.out];exact⟨⟨_,j,rfl,H2.out.ownS 0 rfl⟩,H2.out.base⟩
 ·have dm:((m:Int) != 1)=true:=by simp;omega
  have HX:=Hd (show joinedP (s::L) a=(1,[]) by rw[joinedP,if_neg];rintro⟨h1,_⟩;have:=HAL.out;omega);clear hm hA hL hI
  go_enter Tryz.func60,Tryz.ntmps60
  go_upto_region 1 with fail
  go_quiet (fail)
  go_wp2;go_ret2;exact listPost_no HX.out (h1.drewN _).base
end Go.Proofs.YtnnmplkgenhofaaGreat
