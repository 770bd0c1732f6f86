import Derived.Test.YtjblengklgkgfaaGreatPar
import Derived.Test.YtjblengklgkgfaaGreatPax
import Derived.Test.YtjblengklgkgfaaGreatPba
set_option maxRecDepth 100000
set_option maxHeartbeats 12800000
namespace Go.Proofs.YtjblengklgkgfaaGreat
open Go.RowKit Go.Proofs.Tryz
variable {A B:Option Addr} {L:List (List Int)} {a o s:List Int} {apart wide y:Int} {ax c d i m n:Nat} {w:World}
theorem d1w (n N B apart i j:Nat):c0l n N B apart i j=c0l n N B apart i 0+j*B:=by
 unfold c0l;rw[Nat.add_zero,←Nat.add_assoc,Nat.add_mul _ j];omega
theorem d4z (h:Sh.right s=true)(hx:ax<s.length)(hi:(i:Int)<Sh.size (winS s ax wide apart))(hw:1≤wide)(ha:1≤apart){r:Int}(hr:(Sh.placeOf (winS s ax wide apart) i)[ax]?=some r):
  Sh.index s ((Sh.placeOf (winS s ax wide apart) i).set ax (r*apart))=(c0l (s.getD ax 0).toNat (winN (s.getD ax 0) wide apart).toNat (winB s ax) apart.toNat i 0:Int):=by
 obtain⟨r', hr', _,_,_,_,hix⟩:=b0h (j:=0) h hx hi (by omega) ha;rw[hr] at hr';injection hr' with hr';subst hr'
 simpa using hix
theorem d9e {how:Int}{d:List Int}{j:Nat}(h:a0a s d=true)(hx:ax<s.length)(hi:(i:Int)<Sh.size (winS s ax wide apart))(hj:(j:Int)<wide)(ha:1≤apart):
  ∃ K:Nat,c0l (s.getD ax 0).toNat (winN (s.getD ax 0) wide apart).toNat (winB s ax) apart.toNat i 0+j*winB s ax=K∧K < d.length∧putF how (winI how s d ax wide apart i j) (d.getD K 0)=winI how s d ax wide apart i (j+1):=by
 obtain⟨r', hr', _,_,hl,hin,hix⟩:=b0h (j:=j) (a1p h) hx hi hj ha;obtain⟨K,hK,hKd,_⟩:=c9z h hl hin;rw[hix] at hK;have hK:c0l (s.getD ax 0).toNat (winN (s.getD ax 0) wide apart).toNat (winB s ax) apart.toNat i j=K:=by omega
 refine⟨K,by rw[←d1w,hK],hKd,?_⟩;rw[←hK];rfl
theorem c7r (h:Sh.right s=true)(hy:(Sh.strides s)[ax]?=some y):y=(winB s ax:Int):=by
 have hb:=Sh.strides_bd h y (mG hy);have hl:ax<s.length:=by have:=(lL hy);rwa [Sh.strides_length] at this
 rw[Sh.strides_at (List.getElem?_eq_getElem hl)] at hy;injection hy with hy
 rw[winB,hy];omega
theorem c5x (n wide apart:Int)(hn:Fits n)(hw:Fits wide)(ha:Fits apart)(w:World):
  Calls prog 124 #[.int .i64 n,.int .i64 wide,.int .i64 apart] w fun e w'=>e=.returned (.int .i64 (winN n wide apart))∧w=w':=by
 obtain⟨n1,n2⟩:=hn;obtain⟨w1,w2⟩:=hw;obtain⟨a1,a2⟩:=ha;by_cases g0:wide<1
 ·have d0:decide (wide<1)=true:=by simpa using g0
  have HX:=Hd (a9t (n:=n) (wide:=wide) (apart:=apart) (by omega))
  go_enter func124,ntmps124
  go_wp2;go_ret;exact⟨by rw[HX.out];rfl,rfl⟩
 have d0:decide (wide<1)=false:=by simpa using g0
 by_cases g1:apart<1
 ·have d1:decide (apart<1)=true:=by simpa using g1
  have HX:=Hd (a9t (n:=n) (wide:=wide) (apart:=apart) (by omega))
  go_enter func124,ntmps124
  go_wp2;go_ret;exact⟨by rw[HX.out];rfl,rfl⟩
 have d1:decide (apart<1)=false:=by simpa using g1
 by_cases g2:n<wide
 ·have d2:decide (n<wide)=true:=by simpa using g2
  have HX:=Hd (a9t (n:=n) (wide:=wide) (apart:=apart) (by omega))
  go_enter func124,ntmps124
  go_wp2;go_ret;exact⟨by rw[HX.out];rfl,rfl⟩
 have d2:decide (n<wide)=false:=by simpa using g2
 have HX:=Hd (b6w (n:=n) (wide:=wide) (apart:=apart) (by omega));have hwA:IntKind.i64.wrap (n-wide)=n-wide:=IntWalk.i64_in _ ⟨by omega,by omega⟩;have hq0:=Int.ediv_nonneg (a:=n-wide) (b:=apart) (by omega) (by omega);have hq1:=Int.ediv_le_self (a:=n-wide) apart (by omega);have htd:(n-wide).tdiv apart=(n-wide) / apart:=Int.tdiv_eq_ediv_of_nonneg (by omega);obtain⟨q,hq⟩:∃ q,(n-wide) / apart=q:=⟨_,rfl⟩;rw[hq] at htd hq0 hq1 HX;have hwB:IntKind.i64.wrap q=q:=IntWalk.i64_in _ ⟨by omega,by omega⟩;have hwC:IntKind.i64.wrap (q+1)=q+1:=IntWalk.i64_in _ ⟨by omega,by omega⟩;have hne:¬ apart=0:=by omega
 clear hq
 go_enter func124,ntmps124
 go_wp2;go_ret;exact⟨by rw[HX.out];rfl,rfl⟩
theorem d7e {v:Value}{d:List Int}(how ax wide apart:Int)(h:Ten w v s d):
  Calls prog 72 #[.int .i64 how,v,.int .i64 ax,.int .i64 wide,.int .i64 apart] w fun e w'=>(∃ u,e=.returned (.tuple #[u,.int .i64 (winR how s d ax wide apart).1])∧OTen w' w.heap.size u (winR how s d ax wide apart).2.1 (winR how s d ax wide apart).2.2)∧Below w.heap.size w w':=by
 by_cases hk:(a4q how&&b2h wide apart)=true
 ·have hk2:=hk;rw[Bool.and_eq_true,a8t] at hk2;obtain⟨hh,hw1,hw2,ha1,ha2⟩:=hk2;have HK:=Hd hk;have HH:=Hd hh;clear hk hh;obtain⟨A,n,c,B,m,e,rfl,hnc,hme,hI,hJ⟩:=h;have h1:=((((Sep.nil w).old hJ).old hI).allocBox w.heap.size 33 [.slice A n c,.slice B m e] rfl).allocBox (w.heap.size+1) 33 [.slice none 0 0,.slice none 0 0] (by simp);have hsl:=hI.len;have hnle:=hI.le;have hmle:=hJ.le;have HFD:=Hd hJ.fit;have HDL:=Hd hJ.len
  go_enter func72,ntmps72
  go_upto_region 1 with fail
  generalize (w.alloc (.cells #[.slice A n c,.slice B m e] 33)).alloc (.cells #[.slice none 0 0,.slice none 0 0] 33)=W at *;have H:=Hd h1;clear h1 hI hJ;have HSL:=Hd hsl;clear hsl;have hT:=a1s (H.oldInts 2 rfl) hnc (H.oldInts 3 rfl) hme;have C1:=a2q hT;have HT:=Hd hT;clear hT;obtain⟨t0,t1⟩:=H.z2 1 rfl;have CH:=a6g how W;have db1:decide (wide<1)=false:=by simp;omega
  have db2:decide (32<wide)=false:=by simp;omega
  have db3:decide (apart<1)=false:=by simp;omega
  have db4:decide (32<apart)=false:=by simp;omega
  rw[HH.out] at CH
  go_wp2_with fail
  refine CH.mono ?_;rintro e0 w0 ⟨rfl,rfl⟩;clear CH
  go_wp2_with fail
  cases hr:a0a s d with
  | false =>
   rw[hr] at C1;refine C1.mono ?_;rintro e2 w2 ⟨rfl,hb2⟩;replace H:=Hd (H.below hb2);have HX:=Hd (c0t (ax:=ax) HK hr);obtain⟨r0,r1,fr0,fr1⟩:=H.b2 0;clear hb2 hr C1 t0 t1;go_wp2;rw[HX.out]
   exact sN2 H 0 13 results72
  | true =>
   rw[hr] at C1;refine C1.mono ?_;rintro e2 w2 ⟨rfl,hb2⟩;replace H:=Hd (H.below hb2);have HRT:=Hd hr;clear hb2 hr C1 t0 t1 HT;have hn4:n≤4:=by have:=(a1f HRT).1;have:=HSL.out;omega
   by_cases hx0:ax<0
   ·have db5:decide (ax<0)=true:=by simpa using hx0
    have HX:=Hd (b4b (wide:=wide) (apart:=apart) (ax:=ax) HK HRT (by cases hc:b3o s ax with|false=>rfl|true=>rw[a6s,HSL.out] at hc;omega));obtain⟨t0,t1⟩:=H.z2 1 rfl;obtain⟨r0,r1,fr0,fr1⟩:=H.b2 0;go_wp2;rw[HX.out];exact sN2 H 0 1 results72
   have db5:decide (ax<0)=false:=by simpa using hx0
   by_cases hx1:(n:Int)≤ax
   ·have db6:decide ((n:Int)≤ax)=true:=by simpa using hx1
    have HX:=Hd (b4b (wide:=wide) (apart:=apart) (ax:=ax) HK HRT (by cases hc:b3o s ax with|false=>rfl|true=>rw[a6s,HSL.out] at hc;omega));obtain⟨t0,t1⟩:=H.z2 1 rfl;obtain⟨r0,r1,fr0,fr1⟩:=H.b2 0;go_wp2;rw[HX.out];exact sN2 H 0 1 results72
   have db6:decide ((n:Int)≤ax)=false:=by simpa using hx1
   obtain⟨xx,rfl⟩:=eZ (by omega:0≤ax);have hxn:xx<n:=by omega
   have HXS:=Hd (show xx<s.length by rw[HSL.out];exact hxn);have db7:decide (n≤xx)=false:=by simp;omega
   clear hx0 hx1;have hmk:=a0t underlying22 Tryz.infoInt (n:=n) (by omega);have h1:=H.noughts 3 n (by omega);obtain⟨t0,t1⟩:=H.z2 1 rfl
   go_upto_region 8 with fail
   generalize w2.alloc (.cells (noughts n) 3)=w1 at *;generalize w2.heap.size=gz at *;replace H:=Hd h1;clear h1 hmk t0 t1;obtain⟨t0,t1⟩:=H.z2 2 rfl;have HO:=Hd (H.own 0 rfl);have HI:=Hd (H.oldInts 3 rfl)
   go_upto_region 8 with fail
   go_wp2_with (with_reducible refine a3m rfl (.tmp 58) (.tmp 60) 22 22 rfl 3 underlying22 Tryz.sizeInt HO.out rfl rfl HI.out ?_)
   intro w6 hO6 hg6;have h6:=H.change (d:=.own 3 (.slice (some ⟨gz,0,none⟩) n n) n s) 0 rfl hg6 hO6 (fun k hk=>.inl hk);replace H:=Hd h6;clear h6 hO6 hg6 t0 t1 HO HI;obtain⟨sa,dx,hsA,_,hdx,hcx,hfdx⟩:=(H.oldInts 3 rfl).at_ (k:=xx) hxn;subst hsA;have hdb:=(Sh.right_iff.1 (a1p HRT)).2.1 dx (mG hdx);have HGD:=Hd (show s.getD xx 0=dx by rw[gD,hdx];rfl);obtain⟨M,hM⟩:∃ M,winN dx wide apart=M:=⟨_,rfl⟩;have hMb:0≤M∧M≤dx:=by have h1:=b9w (n:=dx) (wide:=wide) (apart:=apart);rw[hM] at h1;exact⟨h1.1,h1.2 hdb.1⟩
   have hcz:=(H.own 0 rfl).cell hdx;have hfz:=(H.own 0 rfl).frozen xx;have CW:=c5x dx wide apart hfdx ⟨by omega,by omega⟩ ⟨by omega,by omega⟩ w6;rw[hM] at CW;have h2:=H.store 0 xx (x:=M) ⟨by omega,by omega⟩ rfl;rw[show s.set xx M=winS s xx wide apart by rw[winS,HGD.out,hM]] at h2;have H2:=Hd h2;have HMW:=Hd hM;have HDX:=Hd hdx;clear h2 hdx hM;obtain⟨t0,t1⟩:=H.z2 2 rfl
   go_upto_region 9 with fail
   clear t0 t1;obtain⟨t0,t1⟩:=H.z2 2 rfl
   go_wp2_with fail
   refine CW.mono ?_;rintro e3 w3 ⟨rfl,rfl⟩;clear CW
   go_upto_region 10 with fail
   generalize w6.setCell ⟨gz,xx,none⟩ (.int .i64 M)=w2 at *;replace H:=H2;clear hcz hfz hcx t0 t1;obtain⟨Z,hZ⟩:∃ Z,winS s xx wide apart=Z:=⟨_,rfl⟩;have hS:=H.out;rw[hZ] at hS;have HZ:=Hd hZ;replace H:=Hd hS;clear hS hZ H2;have HRS:=Hd (a1p HRT);have HRZ:=Hd (show Sh.right Z=true by rw[←HZ.out];exact b1o HRS HXS)
   go_wp2_with fail
   refine(c1c how _).mono ?_;rintro e6 w6 ⟨rfl,rfl⟩
   go_wp2_with fail
   refine(c2i (a4u how) ((H.ownInts 0 rfl).2.2) (a6d how) HRZ).mono ?_;rintro e4 w4 ⟨⟨u,rfl,hu⟩,hb4⟩;obtain⟨S1,ns,sc,D1,N,dc,rfl,hs1,hd1,hsc,hdc,hNle,h5⟩:=H.addTen hb4 hu;rw[List.length_replicate] at hd1;rw[hd1] at h5;have HN:=Hd hd1;have hN4:N≤4096:=by have:=(Sh.size_bd Z).2;omega
   have h6:=h5.allocBox w4.heap.size 33 [.slice S1 ns sc,.slice D1 N dc] rfl;clear hu hb4 h5 hd1 hs1
   go_upto_region 13 with fail
   generalize w4.alloc (.cells #[.slice S1 ns sc,.slice D1 N dc] 33)=w5 at *;generalize w4.heap.size=gt at *;replace H:=Hd h6;clear h6;obtain⟨tgt,htg⟩:∃ x,winD how s d xx wide apart=x:=⟨_,rfl⟩;have HTG:=Hd (show tgt.length=N by rw[←htg,b3k,HZ.out];exact HN);have HQ:=Hd htg;clear htg;have HAT:=Hd (show ∀ i:Nat,i<N→tgt[i]?=some (winI how s d xx wide apart i wide.toNat) from fun i hi=>by rw[←HQ.out,winD,HZ.out,a7l (by have:=HN.out;omega)]);obtain⟨t0,t1⟩:=H.z2 5 rfl;have C6:=b7m (c:=c) (H.oldInts 6 rfl);rw[iP HRS.out] at C6
   go_wp2_with fail
   refine C6.mono ?_;rintro e6 w6 ⟨⟨A6,n6,c6,rfl,hc6,hI6⟩,hb6⟩;clear C6 t0 t1;replace H:=Hd (H.below hb6);have hn6:n=n6:=by have h1:=hI6.len;rw[Sh.strides_length] at h1;have:=HSL.out;omega
   subst hn6;obtain⟨ta,y,htA,_,hy,hcy,hfy⟩:=hI6.at_ (k:=xx) hxn;subst htA;have hyb:=c7r HRS hy;subst hyb;obtain⟨Y,hY⟩:∃ Y,winB s xx=Y:=⟨_,rfl⟩;rw[hY] at hcy;have HY:=Hd hY;clear hI6 hb6 hy hfy hY
   go_upto_region 14 with fail
   clear hcy;obtain⟨o0,o1⟩:=H.z2 0 rfl
   go_wp2_with fail
   clear o0 o1
   go_loopw [93] (fun kv wr=>∃ i:Nat,kv=.int .i64 i∧i≤N∧Sep w wr [.box gt 33 [.slice S1 ns sc,.slice D1 N dc],.own 3 (.slice S1 ns sc) ns Z,.own 2 (.slice D1 N dc) N (mix tgt (List.replicate N (a4u how)) i),.own 3 (.slice (some ⟨gz,0,none⟩) n n) n Z,.box (w.heap.size+1) 33 [.slice none 0 0,.slice none 0 0],.box w.heap.size 33 [.slice (some sa) n c,.slice B m e],.ints (some sa) n s,.ints B m d]) (fun kv _=>N - (intOf kv).toNat)
   case atStart=>exact⟨0,rfl,by omega,by rw[a2p];exact H⟩
   case round =>
    clear H;obtain⟨i,rfl,hi,hS⟩:=hrel;have H:=Hd hS;clear hS;by_cases hli:i<N
    ·have hiz:(i:Int)<Sh.size Z:=by have:=HN.out;omega
     have hd3:decide (i<N)=true:=by simpa using hli
     obtain⟨w9,rfl⟩:∃ w9:World,w9=wr:=⟨_,rfl⟩;have HIZ:=Hd (show(i:Int)<Sh.size (winS s xx wide apart) by rw[HZ.out];exact hiz);obtain⟨r,hr,hr0,hr1,_⟩:=b0h (i:=i) (j:=0) (wide:=wide) (apart:=apart) HRS HXS HIZ (by omega) ha1;rw[HGD.out,HMW.out] at hr1;have hfi:=d4z HRS HXS HIZ hw1 ha1 hr;rw[HZ.out] at hr hfi;have HL:=Hd (fun (j:Nat) (hj:(j:Int)<wide)=>d9e (how:=how) (d:=d) (i:=i) (j:=j) HRT HXS HIZ hj ha1);obtain⟨F0,hF0⟩:∃ F0,c0l (s.getD xx 0).toNat (winN (s.getD xx 0) wide apart).toNat Y apart.toNat i 0=F0:=⟨_,rfl⟩;rw[HY.out,hF0] at hfi;have HL2:=HL.out;simp only[HY.out,hF0] at HL2;replace HL:=Hd HL2;clear HL2 hF0
     go_wp2_with fail
     refine(c4t i ((H.ownInts 3 rfl).2.2) ⟨by omega,by omega⟩).mono ?_;rintro e7 w7 ⟨⟨v7,n7,rfl,hO⟩,hb7⟩;obtain⟨A7,c7,rfl,hc7,_,_⟩:=hO.form;have hp7:n=n7:=by have:=hO.len;have h2:=(a1o hiz).2.1;rw[←HZ.out,b2y] at h2;rw[←HZ.out] at this;have:=HSL.out;omega
     subst hp7;obtain⟨P,hP⟩:∃ P,Sh.placeOf Z i=P:=⟨_,rfl⟩;rw[hP] at hO hr hfi;replace H:=Hd (H.addOwn hb7 hO);clear hO hb7 hP;obtain⟨gp,cb,hv,hO⟩:=(H.ownS 0 rfl).own (by omega);injection hv with hv1 _ hv3
     subst hv1;subst hv3;have hcp:=hO.cell hr;have hfp:=hO.frozen xx;clear hO;have hra:r*apart≤32*32:=Int.mul_le_mul (by omega) ha2 (by omega) (by omega);have hra0:0≤r*apart:=Int.mul_nonneg hr0 (by omega);obtain⟨Q,hQ⟩:∃ Q,r*apart=Q:=⟨_,rfl⟩;rw[hQ] at hfi hra hra0;have hwq:IntKind.i64.wrap (r*apart)=Q:=by rw[hQ];exact IntWalk.i64_in _ ⟨by omega,by omega⟩
     have h9:=H.store 0 xx (x:=Q) ⟨by omega,by omega⟩ rfl;have H9:=Hd h9;clear h9 hr hQ
     go_upto_region 19 with fail
     generalize w7.setCell ⟨gp,xx,none⟩ (.int .i64 Q)=wz at *;replace H:=H9;clear H9 hcp hfp hwq;obtain⟨t0,t1⟩:=H.z2 6 rfl;have CI:=c4r (c:=c) (d:=c7) (H.oldInts 7 rfl) ((H.ownInts 0 rfl).2.2);rw[hfi] at CI;clear hfi
     go_wp2_with fail
     refine CI.mono ?_;rintro e8 w8 ⟨rfl,rfl⟩;clear CI;replace H:=Hd (H.tail_)
     go_wp2_with fail
     clear t0 t1
     go_loopw [111] (fun jv wr=>∃ J:Nat,jv=.int .i64 J∧J≤wide.toNat∧Sep w wr [.box gt 33 [.slice S1 ns sc,.slice D1 N dc],.own 3 (.slice S1 ns sc) ns Z,.own 2 (.slice D1 N dc) N ((mix tgt (List.replicate N (a4u how)) i).set i (winI how s d xx wide apart i J)),.own 3 (.slice (some ⟨gz,0,none⟩) n n) n Z,.box (w.heap.size+1) 33 [.slice none 0 0,.slice none 0 0],.box w.heap.size 33 [.slice (some sa) n c,.slice B m e],.ints (some sa) n s,.ints B m d]) (fun jv _=>wide.toNat-(intOf jv).toNat)
     case atStart=>exact⟨0,rfl,by omega,by rw[show winI how s d xx wide apart i 0=a4u how from rfl,a8x (a4o HTG.out hli)];exact H⟩
     case round =>
      clear H;obtain⟨J,rfl,hJ,hS⟩:=hrel;have H:=Hd hS;clear hS;by_cases hlj:(J:Int)<wide
      ·have hd4:decide ((J:Int)<wide)=true:=by simpa using hlj
       obtain⟨K,hK,hKd,hst⟩:=HL.out J hlj;have hKm:K < m:=by have:=HDL.out;omega
       have hm4:m≤4096:=by have:=(a1f HRT).2;have:=HDL.out;omega
       obtain⟨jy,hjy⟩:∃ jy,J*Y=jy:=⟨_,rfl⟩;rw[hjy] at hK;have hy1:IntKind.i64.wrap ((J:Int)*(Y:Int))=(jy:Int):=by rw[←Int.natCast_mul,hjy];exact IntWalk.i64_in _ ⟨by omega,by omega⟩
       have hy2:IntKind.i64.wrap ((F0:Int)+(jy:Int))=(K:Int):=by rw[←hK,Int.natCast_add];exact IntWalk.i64_in _ ⟨by omega,by omega⟩
       obtain⟨gb,cb,hv,hO⟩:=(H.ownS 2 rfl).own (by omega);injection hv with hv1 _ hv3
       subst hv1;subst hv3;clear hO;obtain⟨ga,u,hgA,_,hu,hcu,hfu⟩:=(H.oldInts 7 rfl).at_ (k:=K) hKm;subst hgA;rw[show d.getD K 0=u by rw[gD,hu];rfl] at hst;obtain⟨V,hV⟩:∃ V,winI how s d xx wide apart i J=V:=⟨_,rfl⟩;have hfV:Fits V:=by rw[←hV];exact b7s HFD _ _ _ _ _ _
       rw[hV] at hst;have hS:=H.out;rw[hV] at hS;replace H:=Hd hS;clear hS hV;have HST:=Hd (show((mix tgt (List.replicate N (a4u how)) i).set i V).set i (putF how V u)=(mix tgt (List.replicate N (a4u how)) i).set i (winI how s d xx wide apart i (J+1)) by rw[List.set_set,hst]);have hzv:((mix tgt (List.replicate N (a4u how)) i).set i V)[i]?=some V:=by rw[List.getElem?_set_self (by rw[b1p (by rw[HTG.out,List.length_replicate]),List.length_replicate];exact hli)]
       have hcz1:=(H.own 2 rfl).cell hzv;have hff:=(H.own 2 rfl).frozen i;have h9:=H.store 2 i (x:=putF how V u) (a9c how hfV hfu) rfl;rw[HST.out] at h9;have HS9:=Hd h9.drew;obtain⟨o0,o1⟩:=H.z2 0 rfl;obtain⟨t0,t1⟩:=H.z2 5 rfl;have CP:=fun w=>c1y how V u w
       clear h9 hst hu hfV hfu hzv hK hjy hKd
       go_upto_region 23 with fail
       have hcz2:wr.drew.cell? ⟨gb,i,none⟩=some (.int .i64 V):=hcz1;have hff1:wr.drew.frozen? ⟨gb,i,none⟩=false:=hff;refine wp_region_still_tail 20 (by kernel_rfl) (by kernel_rfl) ?_;simp only[List.take_succ_cons,List.take_zero,List.drop_succ_cons,List.drop_zero]
       repeat still_step
       still_call ((CP _).mono fun _ _ ⟨h,g⟩=>⟨h,g.symm⟩)
       repeat still_step
       refine wpStill_nil ?_;change wpList _ _ _ _ _ wr.drew;clear o0 o1 t0 t1;go_wp2;go_roundw
       case rel=>exact⟨J+1,by go_num,by omega,HS9⟩
       case measure=>simp[intOf];omega
      ·have hjm:J=wide.toNat:=by omega
       have hd4:decide ((J:Int)<wide)=false:=by simpa using hlj
       have hS:=H.out;rw[hjm,a3i HTG.out (HAT.out i hli)] at hS;replace H:=Hd hS;clear hS hjm;go_wp2;go_roundw
       case rel=>exact⟨i+1,by go_num,by omega,H⟩
       case measure=>simp[intOf];omega
    ·have hin:N=i:=by omega
     subst hin;have hS:=H.out;rw[a4n HTG.out,←HQ.out] at hS;replace H:=Hd hS;clear hS;have HQ3:=Hd (show winR how s d xx wide apart=(0,Z,winD how s d xx wide apart) by rw[c6m HK.out HRT.out HXS.out,HZ.out]);obtain⟨o0,o1⟩:=H.z2 0 rfl;obtain⟨r0,r1,fr0,fr1⟩:=H.b2 4;go_wp2;rw[HQ3.out];exact sY2 ((H.setBox 4 0 (.slice S1 ns sc) rfl).setBox 4 1 (.slice D1 N dc) rfl) 4 1 2 (.int .i64 0) results72
 ·have hkf:(a4q how&&b2h wide apart)=false:=by simpa using hk
  have HX:=Hd (c3d (s:=s) (d:=d) (ax:=ax) hkf);obtain⟨A,n,c,B,m,e,rfl,hnc,hme,hI,hJ⟩:=h;have h1:=((Sep.nil w).allocBox w.heap.size 33 [.slice A n c,.slice B m e] rfl).allocBox (w.heap.size+1) 33 [.slice none 0 0,.slice none 0 0] (by simp);have C1:=a6g how ((w.alloc (.cells #[.slice A n c,.slice B m e] 33)).alloc (.cells #[.slice none 0 0,.slice none 0 0] 33))
  cases hh:a4q how with
  | false =>
   rw[hh] at C1
   go_enter func72,ntmps72
   go_upto_region 1 with fail
   generalize (w.alloc (.cells #[.slice A n c,.slice B m e] 33)).alloc (.cells #[.slice none 0 0,.slice none 0 0] 33)=W at *;have H:=Hd h1;clear h1 hh hkf hk
   go_wp2_with fail
   refine C1.mono ?_;rintro e1 w1 ⟨rfl,rfl⟩;obtain⟨r0,r1,fr0,fr1⟩:=H.b2 0;clear C1;go_wp2;rw[HX.out]
   exact sN2 H 0 1 results72
  | true =>
   rw[hh] at C1;have hwk:¬(1≤wide∧wide≤32∧1≤apart∧apart≤32):=fun hc=>by rw[hh,a8t.2 hc] at hkf;cases hkf
   clear hh hkf hk;by_cases g0:wide<1
   ·have dg0:decide (wide<1)=true:=by simpa using g0
    go_enter func72,ntmps72
    go_upto_region 1 with fail
    generalize (w.alloc (.cells #[.slice A n c,.slice B m e] 33)).alloc (.cells #[.slice none 0 0,.slice none 0 0] 33)=W at *;have H:=Hd h1;clear h1 hwk
    go_wp2_with fail
    refine C1.mono ?_;rintro e1 w1 ⟨rfl,rfl⟩;obtain⟨r0,r1,fr0,fr1⟩:=H.b2 0;clear C1;go_wp2;rw[HX.out];exact sN2 H 0 1 results72
   have dg0:decide (wide<1)=false:=by simpa using g0
   by_cases g1:32<wide
   ·have dg1:decide (32<wide)=true:=by simpa using g1
    go_enter func72,ntmps72
    go_upto_region 1 with fail
    generalize (w.alloc (.cells #[.slice A n c,.slice B m e] 33)).alloc (.cells #[.slice none 0 0,.slice none 0 0] 33)=W at *;have H:=Hd h1;clear h1 hwk
    go_wp2_with fail
    refine C1.mono ?_;rintro e1 w1 ⟨rfl,rfl⟩;obtain⟨r0,r1,fr0,fr1⟩:=H.b2 0;clear C1;go_wp2;rw[HX.out];exact sN2 H 0 1 results72
   have dg1:decide (32<wide)=false:=by simpa using g1
   by_cases g2:apart<1
   ·have dg2:decide (apart<1)=true:=by simpa using g2
    go_enter func72,ntmps72
    go_upto_region 1 with fail
    generalize (w.alloc (.cells #[.slice A n c,.slice B m e] 33)).alloc (.cells #[.slice none 0 0,.slice none 0 0] 33)=W at *;have H:=Hd h1;clear h1 hwk
    go_wp2_with fail
    refine C1.mono ?_;rintro e1 w1 ⟨rfl,rfl⟩;obtain⟨r0,r1,fr0,fr1⟩:=H.b2 0;clear C1;go_wp2;rw[HX.out];exact sN2 H 0 1 results72
   have dg2:decide (apart<1)=false:=by simpa using g2
   by_cases g3:32<apart
   ·have dg3:decide (32<apart)=true:=by simpa using g3
    go_enter func72,ntmps72
    go_upto_region 1 with fail
    generalize (w.alloc (.cells #[.slice A n c,.slice B m e] 33)).alloc (.cells #[.slice none 0 0,.slice none 0 0] 33)=W at *;have H:=Hd h1;clear h1 hwk
    go_wp2_with fail
    refine C1.mono ?_;rintro e1 w1 ⟨rfl,rfl⟩;obtain⟨r0,r1,fr0,fr1⟩:=H.b2 0;clear C1;go_wp2;rw[HX.out];exact sN2 H 0 1 results72
   have dg3:decide (32<apart)=false:=by simpa using g3
   exact absurd ⟨by omega,by omega,by omega,by omega⟩ hwk
theorem d2m (h:a[0]?=some y):a.getD 0 0=y:=by rw[gD,h];rfl
theorem d5l {k:Nat}(h:a[k]?=some y):a.getD k 0=y:=by rw[gD,h];rfl
theorem d3r (a:Addr):a.add 0=a:=by cases a;rfl
theorem Lils.head (h:Lils w A n (s::L)):∃ a B m c,A=some a∧a.block<w.heap.size∧w.cell? a=some (.slice B m c)∧m≤c∧Ints w B m s:=by
 obtain⟨a,B,m,c,h1,h2,h3,h4,h5⟩:=h.2.2 0 s rfl;exact⟨a,B,m,c,h1,h2,by rwa [d3r] at h3,h4,h5⟩
theorem d1m (a:Addr)(j:Nat):(a.add 1).add j=a.add (j+1):=by rw[a9f,Nat.add_comm]
theorem c1h {w1:World}(hL:Lils w1 A n (s::L))(hc:n≤c):∃ A2:Option Addr,(∀ w,(Instr.slice 35 (.slice A n c) (some (.int .i64 1)) none none).run prog w=.ok (.slice A2 (n-1) (c-1)) w)∧Lils w1 A2 (n-1) L:=by
 have hu:prog.underlying 35=some (.slice 22):=by kernel_rfl
 obtain⟨a,B,m,cs,rfl,_⟩:=hL.head;have hn:L.length+1=n:=hL.1;have hn9:=hL.2.1;by_cases hc1:c=1
 ·subst hc1;have h1:n=1:=by omega
  subst h1;obtain rfl:L=[]:=List.eq_nil_of_length_eq_zero (by omega);refine⟨some a,fun w=>?_,rfl,by omega,fun j x hx=>by simp at hx⟩
  go_simp
 ·refine⟨some (a.add 1),fun w=>?_,by omega,by omega,fun j x hx=>?_⟩
  ·have h1:1≤n:=by omega
   have h2:1≤c:=by omega
   go_simp
   intro h;omega
  ·obtain⟨a', B,m,cs,h1,h2,h3,h4,h5⟩:=hL.2.2 (j+1) x hx;injection h1 with h1;subst h1
   exact⟨a.add 1,B,m,cs,rfl,by rw[a0g];exact h2,by rw[d1m];exact h3,h4,h5⟩
theorem c5p (hS:Ints w A n s)(hA:Ints w B m a):
  Calls prog 92 #[.slice A n c,.slice B m d] w (a4j w (a8d s a)):=by
 have C1:=a1w (c:=c) hS;have HSL:=Hd hS.len;have HAL:=Hd hA.len;have hnle:=hS.le;have hmle:=hA.le
 cases hr:Sh.right s with
 | false =>
  rw[hr] at C1;have HX:=Hd (show a8d s a=(13,[]) by rw[a8d,hr];rfl);clear hr hS hA
  go_enter func92,ntmps92
  go_wp2_with fail
  refine C1.mono ?_;rintro e1 w1 ⟨rfl,rfl⟩;clear C1;go_wp2;go_ret2
  exact a0n HX (Below.refl _ _)
 | true =>
  rw[hr] at C1;have HP:=Hd (show a8d s a=if a.length=1∧0≤a.getD 0 0∧a.getD 0 0<s.length then(0,s) else(1,[]) by rw[a8d,hr,iP rfl]);have hn4:n≤4:=by have:=(Sh.right_iff.1 hr).1;have:=HSL.out;omega
  clear hr;by_cases hm:m=1
  ·subst hm;obtain⟨pa,x,hpA,hpb,hx,hcx,hfx⟩:=hA.at_ (k:=0) (by omega);subst hpA;rw[d3r] at hcx;have HX0:=Hd (d2m hx);have C2:=b1k x (A:=A) (n:=n) (c:=c) w;clear hx hfx
   cases hax:axF x n with
   | false =>
    rw[hax] at C2;have HX:=Hd (show a8d s a=(1,[]) by rw[HP.out,iN];rintro⟨_,h1,h2⟩;rw[HX0.out] at h1 h2;rw[HSL.out] at h2;rw[b3e.2 ⟨h1,h2⟩] at hax;cases hax);clear hax hS hA
    go_enter func92,ntmps92
    go_wp2_with fail
    refine C1.mono ?_;rintro e1 w1 ⟨rfl,rfl⟩;clear C1
    go_wp2_with fail
    refine C2.mono ?_;rintro e1 w1 ⟨rfl,rfl⟩;clear C2;go_wp2;go_ret2
    exact a0n HX (Below.refl _ _)
   | true =>
    rw[hax] at C2;have HX:=Hd (show a8d s a=(0,s) by rw[HP.out,iP];have:=b3e.1 hax;rw[HX0.out,HSL.out];exact⟨HAL,this.1,this.2⟩);have C3:=a6f (c:=c) hS (by omega);clear hax hS hA
    go_enter func92,ntmps92
    go_wp2_with fail
    refine C1.mono ?_;rintro e1 w1 ⟨rfl,rfl⟩;clear C1
    go_wp2_with fail
    refine C2.mono ?_;rintro e1 w1 ⟨rfl,rfl⟩;clear C2
    go_wp2_with fail
    refine C3.mono ?_;rintro e2 w2 ⟨⟨v,rfl,hO⟩,hb⟩;have HO:=Hd hO;clear C3 hO;go_wp2;go_ret2;exact a3z HX HO hb
  ·have dm:((m:Int) != 1)=true:=by simp;omega
   have HX:=Hd (show a8d s a=(1,[]) by rw[HP.out,iN];rintro⟨h1,_⟩;have:=HAL.out;omega);clear hm hS hA
   go_enter func92,ntmps92
   go_wp2_with fail
   refine C1.mono ?_;rintro e1 w1 ⟨rfl,rfl⟩;clear C1;go_wp2;go_ret2;exact a0n HX (Below.refl _ _)
theorem d4m {C:Option Addr}{na ca:Nat}{t:List Int}(hS:Ints w A n s)(hT:Ints w B m t)(hA:Ints w C na a)(kn:n≤c)(km:m≤d):
  Calls prog 99 #[.slice A n c,.slice B m d,.slice C na ca] w (a4j w (b6q s t a)):=by
 have HAL:=Hd hA.len;have hmle:=hA.le;by_cases hm:na=1
 ·subst hm;obtain⟨pa,x,hpA,hpb,hx,hcx,hfx⟩:=hA.at_ (k:=0) (by omega);subst hpA;rw[d3r] at hcx;have HX:=Hd (show b6q s t a=dsR s t x by rw[b6q,iP HAL.out,d2m hx]);have C2:=b8l (ca:=c) (cb:=d) x hS hT kn km;clear hx hfx hA hS hT
  go_enter func99,ntmps99
  go_wp2_with fail
  refine C2.mono ?_;rintro e2 w2 ⟨⟨v,k,rfl,hO⟩,hb⟩;have HO:=Hd hO;clear C2 hO;go_wp2;go_ret2;rw[HX.out];exact⟨⟨_,k,rfl,HO⟩,hb⟩
 ·have dm:((na:Int) != 1)=true:=by simp;omega
  have HX:=Hd (show b6q s t a=(1,[]) by rw[b6q,iN];have:=HAL.out;omega);clear hm hA hS hT
  go_enter func99,ntmps99
  go_wp2;go_ret2;exact a0n HX (Below.refl _ _)
theorem c8b (hS:Ints w A n s)(hA:Ints w B m a)(hmd:m≤d)(hr:Sh.right s=true):
  Calls prog 93 #[.slice A n c,.slice B m d] w (a4j w (a5c s a)):=by
 have HSL:=Hd hS.len;have HAL:=Hd hA.len;have hnle:=hS.le;have hmle:=hA.le;have hn4:n≤4:=by have:=(Sh.right_iff.1 hr).1;have:=HSL.out;omega
 by_cases hm:m=n
 ·subst hm;have hmk:=a0t underlying22 Tryz.infoInt (n:=m) (by omega);have h1:=(((Sep.nil w).old hS).old hA).noughts 3 m (by omega);have HRI:=Hd (Sh.right_iff.1 hr).2.1;clear hr
  go_enter func93,ntmps93
  go_upto_region 4 with fail
  generalize w.alloc (.cells (noughts m) 3)=W at *;generalize hgg:w.heap.size=g at *;have HGG:=Hd hgg;have H:=Hd h1;clear h1 hmk hgg
  go_wp2_with fail
  go_loopw [19] (fun iv wr=>∃ k:Nat,iv=.int .i64 k∧k≤m∧(∀ j,j<k→TuAt s a j)∧Sep w wr [.own 3 (.slice (some ⟨g,0,none⟩) m m) m (mix (a2s s a) (List.replicate m 0) k),.ints B m a,.ints A m s]) (fun iv _=>m-(intOf iv).toNat)
  case atStart=>exact⟨0,rfl,by omega,fun j hj=>by omega,by rw[a2p];exact H⟩
  case round =>
   clear H;obtain⟨k,rfl,hk,hall,hSp⟩:=hrel;have H:=Hd hSp;have HALL:=Hd hall;clear hSp hall;by_cases hlt:k<m
   ·obtain⟨pa,x,hpA,hpb,hx,hcx,hfx⟩:=(H.oldInts 1 rfl).at_ (k:=k) hlt;subst hpA;have HX:=Hd hx;have C2:=b1k x (A:=A) (n:=m) (c:=c) wr;clear hx hfx
    cases hax:axF x m with
    | false =>
     rw[hax] at C2
     have HQ:=Hd (show a5c s a=(1,[]) by
      rw[a5c,iN];intro hT;have:=hT.2 k x HX
      rw[b3e.2 ⟨this.1,by have:=HSL.out;omega⟩] at hax;cases hax)
     clear hax
     go_wp2_with fail
     refine C2.mono ?_;rintro e1 w1 ⟨rfl,rfl⟩;clear C2;go_wp2;go_ret2
     exact a0n HQ H.base
    | true =>
     rw[hax] at C2;have hax2:=b3e.1 hax;obtain⟨x,rfl⟩:=eZ hax2.1;have hxm:x<m:=by omega
     have C3:=b4j (c:=d) (x:Int) ((H.oldInts 1 rfl).take (k:=k) (by omega));clear hax hax2
     go_wp2_with fail
     refine C2.mono ?_;rintro e1 w1 ⟨rfl,rfl⟩;clear C2;by_cases hmem:(x:Int)∈a.take k
     ·rw[decide_eq_true hmem] at C3
      have HQ:=Hd (show a5c s a=(1,[]) by
       rw[a5c,iN];intro hT
       exact(hT.2 k x HX).2.2 hmem)
      clear hmem
      go_wp2_with fail
      refine C3.mono ?_;rintro e1 w1 ⟨rfl,rfl⟩;clear C3;go_wp2;go_ret2;exact a0n HQ H.base
     ·rw[decide_eq_false hmem] at C3;obtain⟨ps,y,hpS,hsb,hy,hcy,hfy⟩:=(H.oldInts 2 rfl).at_ (k:=x) hxm;subst hpS;have hO:=H.own 0 rfl;have hfr:=hO.frozen k;have hcz:=hO.cell (j:=k) (x:=0) (a4o (by rw[a2x];exact HAL) hlt)
      have HT:=Hd (show TuAt s a k from fun z hz=>by
       rw[HX.out] at hz;injection hz with hz;subst hz
       exact⟨by omega,by have:=HSL.out;omega,hmem⟩)
      have hst:=H.store 0 k (x:=y) hfy rfl;rw[a3i (by rw[a2x];exact HAL.out) (b1z HX.out (by rw[Int.toNat_natCast];exact hy))] at hst;have HST:=Hd hst;clear hmem hO hst hy hfy
      go_wp2_with fail
      refine C3.mono ?_;rintro e1 w1 ⟨rfl,rfl⟩;clear C3;go_wp2;go_roundw
      case rel=>exact⟨k+1,by go_num,by omega,fun j hj=>by
       rcases Nat.lt_or_ge j k with h' | h'
       ·exact HALL j h'
       ·obtain rfl:j=k:=by omega
        exact HT,HST⟩
      case measure=>simp[intOf];omega
   ·obtain rfl:k=m:=by omega
    have HQ:=Hd (show a5c s a=(0,a2s s a) by
     rw[a5c,iP];refine⟨by have:=HSL.out;have:=HAL.out;omega,fun j x hx=>?_⟩
     exact HALL j (by have:=(lL hx);have:=HAL.out;omega) x hx)
    have HE:=Hd (show mix (a2s s a) (List.replicate k 0) k=a2s s a from a4n (by rw[a2x];exact HAL));go_wp2;go_ret2;exact a3z HQ (by have:=H.ownS 0 rfl;rw[HE.out] at this;exact this) H.base
 ·have dm:((m:Int) != (n:Int))=true:=by simp;omega
  have HX:=Hd (show a5c s a=(1,[]) by rw[a5c,iN];rintro⟨h1,_⟩;have:=HAL.out;have:=HSL.out;omega);clear hm hA hS hr
  go_enter func93,ntmps93
  go_wp2;go_ret2;exact a0n HX (Below.refl _ _)
theorem d5j:SpOk s o a↔a.length=s.length∧a7v a o.length∧∀(k:Nat) (x y:Int),a[k]?=some x→s[k]?=some y→o[x.toNat]?=some y:=by
 constructor
 ·intro h;refine⟨h.1,fun k x hx=>?_,fun k x y hx hy=>(h.2 k x y hx hy).2.2.2⟩;obtain⟨y,hy⟩:=a0f (l:=s) (k:=k) (by rw[←h.1];exact(lL hx));have:=h.2 k x y hx hy;exact⟨this.1,this.2.1,this.2.2.1⟩
 ·rintro⟨hl,h,g⟩;refine⟨hl,fun k x y hx hy=>?_⟩;have:=h k x hx;exact⟨this.1,this.2.1,this.2.2,g k x y hx hy⟩
theorem c6s {O:Option Addr}{no co:Nat}(hS:Ints w A n s)(hO:Ints w O no o)(hA:Ints w B m a):
  Calls prog 94 #[.slice A n c,.slice O no co,.slice B m d] w (a4j w (a4i s o a)):=by
 have C1:=a1w (c:=co) hO;have HSL:=Hd hS.len;have HOL:=Hd hO.len;have HAL:=Hd hA.len;have hnle:=hS.le;have hole:=hO.le;have hmle:=hA.le
 cases hr:Sh.right o with
 | false =>
  rw[hr] at C1;have HX:=Hd (show a4i s o a=(13,[]) by rw[a4i,hr];rfl);clear hr hS hA hO
  go_enter func94,ntmps94
  go_wp2_with fail
  refine C1.mono ?_;rintro e1 w1 ⟨rfl,rfl⟩;clear C1;go_wp2;go_ret2
  exact a0n HX (Below.refl _ _)
 | true =>
  rw[hr] at C1;have HPY:=Hd (show SpOk s o a→a4i s o a=(0,o) from fun h=>by rw[a4i,hr,iP rfl,iP h]);have HPN:=Hd (show ¬ SpOk s o a→a4i s o a=(1,[]) from fun h=>by rw[a4i,hr,iP rfl,iN h]);have hn4:no≤4:=by have:=(Sh.right_iff.1 hr).1;have:=HOL.out;omega
  clear hr;by_cases hm:m=n
  ·subst hm;have C2:=b9p (c:=d) (S:=O) (d:=co) hA hn4;by_cases hri:a7v a no
   ·rw[b8i hri] at C2;have HRI:=Hd hri;clear hri;have h1:=(((Sep.nil w).old hS).old hA).old hO
    go_enter func94,ntmps94
    go_wp2_with fail
    refine C1.mono ?_;rintro e1 w1 ⟨rfl,rfl⟩;clear C1
    go_wp2_with fail
    refine C2.mono ?_;rintro e1 w1 ⟨rfl,rfl⟩;clear C2
    go_wp2_with fail
    go_loopw [26] (fun iv wr=>∃ k:Nat,iv=.int .i64 k∧k≤m∧(∀(j:Nat) (x y:Int),j<k→a[j]?=some x→s[j]?=some y→o[x.toNat]?=some y)∧Sep w wr [.ints O no o,.ints B m a,.ints A m s]) (fun iv _=>m-(intOf iv).toNat)
    case atStart=>exact⟨0,rfl,by omega,fun j x y hj=>by omega,h1⟩
    case round =>
     clear h1;obtain⟨k,rfl,hk,hall,hSp⟩:=hrel;have H:=Hd hSp;have HALL:=Hd hall;clear hSp hall;by_cases hlt:k<m
     ·obtain⟨pa,x,hpA,hpb,hx,hcx,hfx⟩:=(H.oldInts 1 rfl).at_ (k:=k) hlt;subst hpA;obtain⟨ps,y,hpS,hpb2,hy,hcy,hfy⟩:=(H.oldInts 2 rfl).at_ (k:=k) hlt;subst hpS;have hxr:=HRI.out k x hx;obtain⟨x,rfl⟩:=eZ hxr.1;have hxo:x<no:=by omega
      obtain⟨po,z,hpO,hpb3,hz,hcz,hfz⟩:=(H.oldInts 0 rfl).at_ (k:=x) hxo;subst hpO;have HX:=Hd hx;have HY:=Hd hy;have HZ:=Hd hz;clear hx hy hz hfx hfy hfz hxr;by_cases hzy:z=y
      ·subst hzy
       go_wp2_with fail
       go_quiet (fail)
       go_wp2;go_roundw
       case rel=>exact⟨k+1,by go_num,by omega,fun j u v hj hu hv=>by
        rcases Nat.lt_or_ge j k with h' | h'
        ·exact HALL j u v h' hu hv
        ·obtain rfl:j=k:=by omega
         rw[HX.out] at hu;injection hu with hu;subst hu
         rw[HY.out] at hv;injection hv with hv;subst hv
         rw[Int.toNat_natCast];exact HZ,H.drewN _⟩
       case measure=>simp[intOf];omega
      ·have dz:(z != y)=true:=by simpa using hzy
       have HQ:=Hd (show a4i s o a=(1,[]) by
        refine HPN fun hT=>?_
        have h9:=(hT.2 k x y HX HY).2.2.2;rw[Int.toNat_natCast,HZ.out] at h9
        injection h9 with h9;exact hzy h9)
       clear hzy
       go_wp2_with fail
       go_quiet (fail)
       go_wp2;go_ret2;exact a0n HQ (H.drewN _).base
     ·obtain rfl:k=m:=by omega
      have HQ:=Hd (show a4i s o a=(0,o) by
       refine HPY (d5j.2 ?_);refine⟨by have:=HSL.out;have:=HAL.out;omega,by rw[HOL.out];exact HRI,fun j x y hx hy=>?_⟩
       exact HALL j x y (by have:=(lL hx);have:=HAL.out;omega) hx hy)
      have C3:=a6f (c:=co) (H.oldInts 0 rfl) (by omega)
      go_wp2_with fail
      refine C3.mono ?_;rintro e2 w2 ⟨⟨v,rfl,hO⟩,hb⟩;have H2:=Hd (H.addOwn hb hO);clear C3 hO hb;go_wp2;go_ret2;exact a3z HQ (H2.ownS 0 rfl) H2.base
   ·rw[b6s hri] at C2;have HX:=Hd (show a4i s o a=(1,[]) by refine HPN fun h=>?_;exact hri (by have:=(d5j.1 h).2.1;rwa [HOL.out] at this));clear hri hS hA hO
    go_enter func94,ntmps94
    go_wp2_with fail
    refine C1.mono ?_;rintro e1 w1 ⟨rfl,rfl⟩;clear C1
    go_wp2_with fail
    refine C2.mono ?_;rintro e1 w1 ⟨rfl,rfl⟩;clear C2;go_wp2;go_ret2;exact a0n HX (Below.refl _ _)
  ·have dm:((m:Int) != (n:Int))=true:=by simp;omega
   have HX:=Hd (show a4i s o a=(1,[]) by refine HPN ?_;rintro⟨h1,_⟩;have:=HAL.out;have:=HSL.out;omega);clear hm hA hS hO
   go_enter func94,ntmps94
   go_wp2_with fail
   refine C1.mono ?_;rintro e1 w1 ⟨rfl,rfl⟩;clear C1;go_wp2;go_ret2;exact a0n HX (Below.refl _ _)
end Go.Proofs.YtjblengklgkgfaaGreat
