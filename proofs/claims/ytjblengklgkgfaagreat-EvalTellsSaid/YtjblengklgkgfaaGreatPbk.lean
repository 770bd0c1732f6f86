import Derived.Test.YtjblengklgkgfaaGreatPbj
set_option maxRecDepth 100000
set_option maxHeartbeats 12800000
namespace Go.Proofs.YtjblengklgkgfaaGreat
open Go.RowKit Go.Proofs.Tryz
variable {A Af:Option Addr} {c cf n nz x:Nat} {d f l s z:List Int} {w:World}
theorem b3n (x:Int)(h:Ints w A n s)(hx:Fits x)(hr:Sh.right s=true):
  Calls prog 59 #[.slice A n c,.int .i64 x] w fun e w'=>(∃ v,e=.returned (.tuple #[v,.int .i64 0])∧OTen w' w.heap.size v s (List.replicate (Sh.size s).toNat x))∧Below w.heap.size w w':=by
 have:=b4l (c:=c) x h hx;rwa [b0s hr,b5s hr,b5q hr] at this
theorem b7u (x:Int)(h:Ints w A n s)(hx:Fits x)(hr:Sh.right s=false):
  Calls prog 59 #[.slice A n c,.int .i64 x] w fun e w'=>(∃ v,e=.returned (.tuple #[v,.int .i64 13])∧OTen w' w.heap.size v [] [])∧Below w.heap.size w w':=by
 have:=b4l (c:=c) x h hx;rwa [a9m hr,b2o hr,b3r hr] at this
def c0i (l:List Int):List Value:=(List.range 4).map fun q:Nat=>Value.bool (decide ((q:Int)∈l))
theorem d5n:c0i []=[.bool false,.bool false,.bool false,.bool false]:=by simp[c0i,List.range_succ]
theorem b6t (h:x<4):(c0i l)[x]?=some (.bool (decide ((x:Int)∈l))):=by
 rw[c0i,List.getElem?_map,List.getElem?_range h];rfl
theorem d4i (h:x<4):(c0i l).set x (.bool true)=c0i (l++[(x:Int)]):=by
 apply List.ext_getElem?;intro i;rw[List.getElem?_set];by_cases hi:x=i
 ·subst hi;rw[iP rfl,iP (by simpa [c0i] using h),b6t h];simp
 ·rw[iN hi];rcases Nat.lt_or_ge i 4 with h' | h'
  ·rw[b6t h', b6t h'];have:(i:Int)≠x:=by omega
   simp[this]
  ·rw[List.getElem?_eq_none (by simpa [c0i] using h'),List.getElem?_eq_none (by simpa [c0i] using h')]
theorem c5a {a:List Int}(h:Ints w A n a)(hs:s.length≤4):
  Calls prog 109 #[.slice A n c,.int .i64 s.length] w fun e w'=>Asks e (TuOk s a)∧Below w.heap.size w w':=by
 obtain⟨r,hr⟩:∃ r,s.length=r:=⟨_,rfl⟩;rw[hr];have hr4:r≤4:=by omega
 have HSR:=Hd hr;have HLA:=Hd h.len;have hle:=h.le;clear hr hs;by_cases hnr:n=r
 ·subst hnr;have h1:=((Sep.nil w).old h).allocBox w.heap.size 141 [.bool false,.bool false,.bool false,.bool false] rfl
  go_enter func109,ntmps109
  go_upto_region 4 with fail
  generalize w.alloc (.cells #[.bool false,.bool false,.bool false,.bool false] 141)=w1 at *;have H:=Hd h1;clear h1 h;go_wp2
  go_loopw [14] (fun i wr=>∃ k:Nat,k≤n∧i=.int .i64 k∧(∀ j,j<k→TuAt s a j)∧Sep w wr [.box w.heap.size 141 (c0i (a.take k)),.ints A n a]) (fun i _=>n-(intOf i).toNat)
  case atStart=>exact⟨0,Nat.zero_le _,rfl,fun j hj=>by omega,by rw[List.take_zero,d5n];exact H⟩
  case round =>
   clear H;obtain⟨k,hk,rfl,hall,hS⟩:=hrel;have HALL:=Hd hall;clear hall;by_cases hlt:k<n
   ·obtain⟨ad,x,hA,hb,hx,hcx,hf⟩:=(hS.oldInts 1 rfl).at_ hlt;subst hA;have HE:=Hd hx;clear hx;have H:=Hd hS;clear hS;have HBAD:=Hd (show ¬(0≤x∧x<n∧x∉a.take k)→¬ TuOk s a from fun hbad hc=>hbad (by have:=hc.2 k x HE;rwa [HSR.out] at this));obtain⟨hf1,hf2⟩:=hf;by_cases g1:x<0
    ·have HN:=Hd (HBAD (by omega));clear HBAD;go_wp2;go_ret;exact⟨a4v HN,H.base⟩
    by_cases g2:(n:Int)≤x
    ·have HN:=Hd (HBAD (by omega));clear HBAD;go_wp2;go_ret;exact⟨a4v HN,H.base⟩
    obtain⟨xn,rfl⟩:=eZ (by omega:0≤x);have hx4:xn<4:=by omega
    have e2:decide (n≤xn)=false:=by simp;omega
    have hci:=H.cell 0 xn rfl (b6t (l:=a.take k) hx4);have hfi:=H.frozenBox 0 xn rfl;by_cases g3:(xn:Int)∈a.take k
    ·rw[decide_eq_true g3] at hci;have HN:=Hd (HBAD (fun hh=>hh.2.2 g3));clear HBAD g3;go_wp2;go_ret;exact⟨a4v HN,H.base⟩
    ·rw[decide_eq_false g3] at hci;have HG:=Hd g3;have hS2:=H.setBox 0 xn (.bool true) rfl;rw[d4i hx4] at hS2;have HS2:=Hd hS2;clear HBAD g3 hS2;go_wp2;go_roundw
     case rel=>exact⟨k+1,by omega,by go_num,fun j hj=>by
      rcases Nat.lt_or_ge j k with h' | h'
      ·exact HALL j h'
      ·obtain rfl:j=k:=by omega
       intro y hy;rw[HE.out] at hy;injection hy with hy;subst hy
       exact⟨by omega,by rw[HSR.out];omega,HG⟩,by rw[List.take_add_one,HE.out];exact HS2⟩
     case measure=>simp[intOf];omega
   ·have HR:=Hd (show TuOk s a from⟨by have:=HLA.out;have:=HSR.out;omega,fun j x hx=>HALL.out j (by have:=(lL hx);have:=HLA.out;omega) x hx⟩);have H:=Hd hS;clear hS;go_wp2;go_ret;exact⟨b1v HR,H.base⟩
 ·have HN:=Hd (show ¬ TuOk s a from fun hc=>by have:=hc.1;have:=HLA.out;have:=HSR.out;omega);have hb:((n:Int) != (r:Int))=true:=by simp;omega
  go_enter func109,ntmps109
  go_wp2;go_ret;exact⟨a4v HN,Below.refl _ _⟩
theorem b8y {v:Value}{Az At:Option Addr}{cz ct:Nat}{st:List Int}(h:Ten w v s d)(hZ:Ints w Az nz z)(hF:Ints w Af nz f)(hT:Ints w At nz st)(hr:Sh.right z=true)(hf:Near f)(hst:d2w st)(hl:c7n z f st d.length):
  Calls prog 110 #[v,.slice Az nz cz,.slice Af nz cf,.slice At nz ct] w fun e w'=>(∃ u,e=.returned (.tuple #[u,.int .i64 0])∧OTen w' w.heap.size u z (c0j d z f st))∧Below w.heap.size w w':=by
 obtain⟨A,n,c,B,m,e,rfl,hnc,hme,hI,hJ⟩:=h;have h1:=((((((((Sep.nil w).old hT).old hF).old hZ).old hJ).old hI).allocBox w.heap.size 33 [.slice A n c,.slice B m e] rfl).allocBox (w.heap.size+1) 33 [.slice none 0 0,.slice none 0 0] (by simp));have hdl:=hJ.len;rw[hdl] at hl;have HLD:=Hd hl;have HDL:=Hd hdl;have HLZ:=Hd hZ.len;have hn4:nz≤4:=by have:=(Sh.right_iff.1 hr).1;have:=hZ.len;omega
 have HR:=Hd hr;have HNF:=Hd hf;have HST:=Hd hst;have hmle:=hJ.le;clear hr hf hst hI hJ hZ hF hT hl hdl
 go_enter func110,ntmps110
 go_upto_region 1 with fail
 generalize (w.alloc (.cells #[.slice A n c,.slice B m e] 33)).alloc (.cells #[.slice none 0 0,.slice none 0 0] 33)=W at *;have H:=Hd h1;clear h1;obtain⟨N,hN⟩:=eZ (Sh.size_bd z).1;have hN4:N≤4096:=by have:=(Sh.size_bd z).2;omega
 have HN:=Hd hN;clear hN
 go_wp2_with fail
 refine(b3n 0 (H.oldInts 4 rfl) ⟨by omega,by omega⟩ HR).mono ?_;rintro e4 w4 ⟨⟨u,rfl,hu⟩,hb4⟩;rw[HN.out,Int.toNat_natCast] at hu;obtain⟨S1,ns,sc,D1,N1,dc,rfl,hs1,hd1,hsc,hdc,hNle,h5⟩:=H.addTen hb4 hu;rw[List.length_replicate] at hd1;subst hd1;have h6:=h5.allocBox w4.heap.size 33 [.slice S1 ns sc,.slice D1 N dc] rfl;clear hu hb4 h5 hs1
 go_upto_region 4 with fail
 generalize w4.alloc (.cells #[.slice S1 ns sc,.slice D1 N dc] 33)=w5 at *;generalize w4.heap.size=gt at *;replace H:=Hd h6;clear h6
 go_wp2_with fail
 refine(c9g (H.oldInts 7 rfl) (H.oldInts 8 rfl) (H.oldInts 9 rfl) HR HNF HST).mono ?_;rintro e7 w7 ⟨⟨v7,n7,rfl,hO⟩,hb7⟩;obtain⟨A7,c7,rfl,hc7,_,_⟩:=hO.form;have hn7:n7=N:=by have:=hO.len;rw[b8v,a2y] at this;have:=HN.out;omega
 subst hn7;replace H:=Hd (H.addOwn hb7 hO);clear hO hb7 hc7;obtain⟨tgt,htg⟩:∃ t,c0j d z f st=t:=⟨_,rfl⟩;have HTL:=Hd (show tgt.length=n7 by rw[←htg,c0j,a2y];have:=HN.out;omega);have HAT:=Hd (show ∀ i:Nat,i<n7→tgt[i]?=some (d.getD (b0r z f st i).toNat 0) from fun i hi=>by rw[←htg,c0j];exact a7l (by have:=HN.out;omega));have HQ:=Hd htg;clear htg
 go_wp2_with fail
 go_loopw [28] (fun kv wr=>∃ i:Nat,kv=.int .i64 i∧i≤n7∧Sep w wr [.own 3 (.slice A7 n7 c7) n7 (b8v z f st),.box gt 33 [.slice S1 ns sc,.slice D1 n7 dc],.own 3 (.slice S1 ns sc) ns z,.own 2 (.slice D1 n7 dc) n7 (mix tgt (List.replicate n7 0) i),.box (w.heap.size+1) 33 [.slice none 0 0,.slice none 0 0],.box w.heap.size 33 [.slice A n c,.slice B m e],.ints A n s,.ints B m d,.ints Az nz z,.ints Af nz f,.ints At nz st]) (fun kv _=>n7-(intOf kv).toNat)
 case atStart=>exact⟨0,rfl,by omega,by rw[a2p];exact H⟩
 case round =>
  clear H;obtain⟨i,rfl,hi,hS⟩:=hrel;by_cases hli:i<n7
  ·have hiz:(i:Int)<Sh.size z:=by have:=HN.out;omega
   obtain⟨hq0,hq1⟩:=HLD.out i hiz;obtain⟨q,hq⟩:=eZ hq0;rw[hq] at hq1;have hqm:q<m:=by omega
   obtain⟨la,x,hlA,_,hx,hcx,hfx⟩:=((hS.ownInts 0 rfl).2.2).at_ (k:=i) hli;subst hlA;have hxq:x=q:=by rw[b8v,a7l (by omega)] at hx;injection hx with hx;rw[←hx,hq]
   subst hxq;obtain⟨da,y,hdA,_,hy,hcy,hfy⟩:=(hS.oldInts 7 rfl).at_ (k:=q) hqm;subst hdA;have HTX:=Hd (show tgt[i]?=some y by rw[HAT.out i hli,hq,Int.toNat_natCast,gD,hy];rfl);obtain⟨gb,cb,hv,hO⟩:=(hS.ownS 3 rfl).own (by omega);injection hv with hv1 _ hv3
   subst hv1;subst hv3;have hcd:=hO.cell (a4o (c:=0) HTL hli);have hfd:=hO.frozen i;have hS2:=hS.store 3 i hfy rfl;rw[a3i HTL.out HTX.out] at hS2;have HS2:=Hd hS2;have b1:=hS.c 1 1;have t1:=hS.c 5 1;clear hS hS2 hO hx hy hq hq0 hfx hfy hiz
   go_upto_region 7 with fail
   go_still_tail 9,(by kernel_rfl)
   change wpList _ _ _ _ _ wr.drew;have hcd1:wr.drew.cell? ⟨gb,i,none⟩=some (.int .i64 0):=hcd;have hfd1:wr.drew.frozen? ⟨gb,i,none⟩=false:=hfd;go_wp2;go_roundw
   case rel=>exact⟨i+1,by go_num,by omega,HS2.drew⟩
   case measure=>simp[intOf];omega
  ·have hin:n7=i:=by omega
   subst hin;rw[a4n HTL.out] at hS;have H:=Hd hS;clear hS;rw[←HQ.out] at H;obtain⟨o0,o1⟩:=H.z2 1 rfl;obtain⟨r0,r1,fr0,fr1⟩:=H.b2 4;go_wp2;exact sY2 ((H.setBox 4 0 (.slice S1 ns sc) rfl).setBox 4 1 (.slice D1 n7 dc) rfl) 4 2 3 (.int .i64 0) results110
theorem d5k {w0:World}{l:List a0c}{Z D As Bd:Option Addr}{zc N dc ns cs m dd:Nat}{o:List Int}{cF:a0c}(H0:Sep w0 w l)(i j k a b:Nat)
  (hi:l[i]?=some (.own 2 (.slice D N dc) N o))(hj:l[j]?=some (.own 3 (.slice Z nz zc) nz z))(hk:l[k]?=some cF)(ha:l[a]?=some (.ints As ns s))(hb:l[b]?=some (.ints Bd m d))
  (hne:i≠j∧i≠k∧i≠a∧i≠b)(hF:∀ w', cF.holds w' w0.heap.size→Ints w' Af ns f)(hr:Sh.right s=true)(hz:Sh.right z=true)(hf:Near f)(hm:(m:Int)=Sh.size s)(hzs:nz=ns)(hl:c7n s f (Sh.strides z) N):
  Calls prog 115 #[.agg #[.slice Z nz zc,.slice D N dc],.agg #[.slice As ns cs,.slice Bd m dd],.slice Af ns cf] w fun e w'=>e=.returned (.tuple #[])∧Sep w0 w' (l.set i (.own 2 (.slice D N dc) N (layD o d s f z m))):=by
 obtain⟨ne1,ne2,ne3,ne4⟩:=hne;have hil:i<l.length:=(lL hi);have KI:=Hd (show ∀ x:a0c,(l.set i x)[i]?=some x from fun x=>by rw[List.getElem?_set,iP rfl,iP hil]);have KJ:=Hd (show ∀ x:a0c,(l.set i x)[j]?=_ from fun x=>(List.getElem?_set_ne ne1).trans hj);have KK:=Hd (show ∀ x:a0c,(l.set i x)[k]?=_ from fun x=>(List.getElem?_set_ne ne2).trans hk);have KA:=Hd (show ∀ x:a0c,(l.set i x)[a]?=_ from fun x=>(List.getElem?_set_ne ne3).trans ha);have KB:=Hd (show ∀ x:a0c,(l.set i x)[b]?=_ from fun x=>(List.getElem?_set_ne ne4).trans hb);have h1:Sep w0 w (l.set i (.own 2 (.slice D N dc) N (layD o d s f z 0))):=by rw[show layD o d s f z 0=o from rfl,b9l hi];exact H0
 have hO:=h1.ownS i (KI _);have hole:=hO.2.2;have HLO:=Hd (show o.length=N from hO.len);have hT:=h1.oldInts b (KB _);have hmle:=hT.le;have HLD:=Hd hT.len;have hsl:=(h1.oldInts a (KA _)).len;have hns:ns≤4:=by have:=(Sh.right_iff.1 hr).1;omega
 have hm4:m≤4096:=by have:=(Sh.size_bd s).2;omega
 have HR:=Hd hr;have HZ:=Hd hz;have HNF:=Hd hf;have HM:=Hd hm;have HL:=Hd hl;have HFF:=Hd hF;have HSTD:=Hd (show d2w (Sh.strides z) from Sh.strides_bd hz);clear hr hz hf hm hl hF hO hT hsl hi hj hk ha hb ne1 ne2 ne3 ne4 hil H0;subst hzs;have h2:=(h1.allocBox w.heap.size 33 [.slice Z nz zc,.slice D N dc] rfl).allocBox (w.heap.size+1) 33 [.slice As nz cs,.slice Bd m dd] (by simp);clear h1
 go_enter func115,ntmps115
 go_upto_region 1 with fail
 generalize (w.alloc (.cells #[.slice Z nz zc,.slice D N dc] 33)).alloc (.cells #[.slice As nz cs,.slice Bd m dd] 33)=w2 at *;have H:=Hd h2;clear h2;have q0:=H.c 0 0;have q1:=H.c 1 0;have C1:=Hd (a6q (w:=w2.drew) (c:=zc) (H.drew.ownInts (j+2) (KJ _)).2.2 HZ)
 go_region_held3 (fun w'=>w'.cell? ⟨w.heap.size+1,0,none⟩=some (.slice As nz cs)∧w'.cell? ⟨w.heap.size,0,none⟩=some (.slice Z nz zc)) (go_keep)
  (first|(go_at_call 106;refine C1.mono ?_;rintro e5 w5 ⟨⟨v5,n5,rfl,hO5⟩,hb5⟩;obtain⟨A5,c5,rfl,hc5,_,_⟩:=hO5.form;have hn5:n5=nz:=(by have:=hO5.len;rw[Sh.strides_length] at this;have:=(H.ownInts (j+2) (KJ _)).2.2.len;omega);subst hn5;have H5:=Hd (H.drew.addOwn hb5 hO5);have m0:=H5.c 1 0;have m1:=H5.c 2 0;clear hO5 hb5)|(go_at_call 146;refine(c9g (H5.oldInts (a+3) (KA _)) (HFF _ (H5.at_ (k+3) (KK _))) (H5.ownInts 0 rfl).2.2 HR HNF HSTD).mono ?_;rintro e6 w6 ⟨⟨v6,n6,rfl,hO6⟩,hb6⟩;obtain⟨A6,c6,rfl,hc6,_,_⟩:=hO6.form;have H6:=Hd (H5.addOwn hb6 hO6);have HO6:=Hd hO6.len;have k0:=H6.c 2 0;have k1:=H6.c 3 0;clear hO6 hb6))
 clear q0 q1 m0 m1 k0 k1 H5 C1 H;have hn6:n6=m:=by have:=HO6.out;rw[b8v,a2y] at this;have:=HM.out;omega
 subst hn6;go_wp2
 go_loopw [16] (fun kv wr=>∃ q:Nat,kv=.int .i64 q∧q≤n6∧Sep w0 wr (.own 3 (.slice A6 n6 c6) n6 (b8v s f (Sh.strides z))::.box (w.heap.size+1) 33 [.slice As n5 cs,.slice Bd n6 dd]::.box w.heap.size 33 [.slice Z n5 zc,.slice D N dc]::l.set i (.own 2 (.slice D N dc) N (layD o d s f z q)))) (fun kv _=>n6-(intOf kv).toNat)
 case atStart=>exact⟨0,rfl,by omega,H6.less1⟩
 case round =>
  clear H6;obtain⟨q,rfl,hq,hS⟩:=hrel;by_cases hlq:q<n6
  ·obtain⟨hp0,hp1⟩:=HL.out q (by have:=HM.out;omega);obtain⟨K,hK⟩:=eZ hp0;rw[hK] at hp1;have hKN:K < N:=by omega
   obtain⟨la,x,hlA,_,hx,hcx,hfx⟩:=((hS.ownInts 0 rfl).2.2).at_ (k:=q) hlq;subst hlA;have hxK:x=K:=by rw[b8v,a7l (by have:=HM.out;omega)] at hx;injection hx with hx;rw[←hx,hK]
   subst hxK;obtain⟨da,y,hdA,_,hy,hcy,hfy⟩:=(hS.oldInts (b+3) (KB _)).at_ (k:=q) hlq;subst hdA;obtain⟨gb,cb,hv,hO⟩:=(hS.ownS (i+3) (KI _)).own (by omega);injection hv with hv1 _ hv3
   subst hv1;subst hv3;obtain⟨u,hu⟩:=a0f (l:=layD o d s f z q) (k:=K) (by rw[c7w];have:=HLO.out;omega);have hcd:=hO.cell hu;have hfd:=hO.frozen K;have hS2:=hS.store (i+3) K hfy (KI _);have hst:=d4k (o:=o) (s:=s) (f:=f) (z:=z) hy;rw[hK,Int.toNat_natCast] at hst;rw[hst] at hS2
   have HS2:=Hd (hS2.recast (show _=(.own 3 (.slice (some la) n6 c6) n6 (b8v s f (Sh.strides z))::.box (w.heap.size+1) 33 [.slice As n5 cs,.slice (some da) n6 dd]::.box w.heap.size 33 [.slice Z n5 zc,.slice (some ⟨gb,0,none⟩) N dc]::l.set i (.own 2 (.slice (some ⟨gb,0,none⟩) N dc) N (layD o d s f z (q+1)))) by
    simp only[List.set_cons_succ,List.set_set]))
   have b1:=hS.c 2 1;have t1:=hS.c 1 1;clear hS hS2 hst hO hx hy hK hp0 hfx hfy hu
   go_upto_region 4 with fail
   go_still_tail 9,(by kernel_rfl)
   change wpList _ _ _ _ _ wr.drew;have hcd1:wr.drew.cell? ⟨gb,K,none⟩=some (.int .i64 u):=hcd;have hfd1:wr.drew.frozen? ⟨gb,K,none⟩=false:=hfd;go_wp2;go_roundw
   case rel=>exact⟨q+1,by go_num,by omega,HS2.drew⟩
   case measure=>simp[intOf];omega
  ·have hqm:n6=q:=by omega
   subst hqm;have H:=Hd hS;clear hS;go_wp2
   go_end0
   exact⟨rfl,H.tail_.tail_.tail_⟩
end Go.Proofs.YtjblengklgkgfaaGreat
