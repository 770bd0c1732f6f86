import Derived.Test.YtnnmplkgenhofaaGreatPad
import Derived.Test.YtnnmplkgenhofaaGreatPae
import Derived.Test.YtnnmplkgenhofaaGreatPas
import Derived.Test.YtnnmplkgenhofaaGreatPav
set_option maxRecDepth 100000
set_option maxHeartbeats 12800000
namespace Go.Proofs.YtnnmplkgenhofaaGreat
open Go.RowKit
theorem ref8Windows_any (n wide apart:Int) (hn:Fits n) (hw:Fits wide) (ha:Fits apart) (w:World) :
  Calls Tryz.prog 105 #[.int .i64 n,.int .i64 wide,.int .i64 apart] w fun e w' => e=.returned (.int .i64 (winN n wide apart))∧w=w' := by
 obtain⟨n1,n2⟩:=hn;obtain⟨w1,w2⟩:=hw;obtain⟨a1,a2⟩:=ha;by_cases g0:n<0
 ·have d0:decide (n<0)=true:=by simpa using g0
  have HX:=Hd (winN_no (n:=n) (wide:=wide) (apart:=apart) (by omega))
  go_enter Tryz.func105,Tryz.ntmps105
  go_wp2;go_ret;exact⟨by rw[HX.out];rfl,rfl⟩
 have d0:decide (n<0)=false:=by simpa using g0
 by_cases g1:wide<1
 ·have d1:decide (wide<1)=true:=by simpa using g1
  have HX:=Hd (winN_no (n:=n) (wide:=wide) (apart:=apart) (by omega))
  go_enter Tryz.func105,Tryz.ntmps105
  go_wp2;go_ret;exact⟨by rw[HX.out];rfl,rfl⟩
 have d1:decide (wide<1)=false:=by simpa using g1
 by_cases g2:apart<1
 ·have d2:decide (apart<1)=true:=by simpa using g2
  have HX:=Hd (winN_no (n:=n) (wide:=wide) (apart:=apart) (by omega))
  go_enter Tryz.func105,Tryz.ntmps105
  go_wp2;go_ret;exact⟨by rw[HX.out];rfl,rfl⟩
 have d2:decide (apart<1)=false:=by simpa using g2
 by_cases g3:n<wide
 ·have d3:decide (n<wide)=true:=by simpa using g3
  have HX:=Hd (winN_no (n:=n) (wide:=wide) (apart:=apart) (by omega))
  go_enter Tryz.func105,Tryz.ntmps105
  go_wp2;go_ret;exact⟨by rw[HX.out];rfl,rfl⟩
 have d3:decide (n<wide)=false:=by simpa using g3
 have HX:=Hd (winN_yes (n:=n) (wide:=wide) (apart:=apart) (by omega));have hwA:IntKind.i64.wrap (n-wide)=n-wide:=IntWalk.i64_in _ ⟨by omega,by omega⟩;have hq0:=Int.ediv_nonneg (a:=n-wide) (b:=apart) (by omega) (by omega);have hq1:=Int.ediv_le_self (a:=n-wide) apart (by omega);have htd:(n-wide).tdiv apart=(n-wide) / apart:=Int.tdiv_eq_ediv_of_nonneg (by omega);obtain⟨q,hq⟩:∃ q,(n-wide) / apart=q:=⟨_,rfl⟩;rw[hq] at htd hq0 hq1 HX;have hwB:IntKind.i64.wrap q=q:=IntWalk.i64_in _ ⟨by omega,by omega⟩;have hwC:IntKind.i64.wrap (q+1)=q+1:=IntWalk.i64_in _ ⟨by omega,by omega⟩;have hne:¬ apart=0:=by omega
 clear hq
 go_enter Tryz.func105,Tryz.ntmps105
 go_wp2;go_ret;exact⟨by rw[HX.out];rfl,rfl⟩
theorem ref8Window_any {w:World} {v:Value} {s d:List Int} (how ax wide apart:Int) (h:Ten w v s d) :
  Calls Tryz.prog 77 #[.int .i64 how,v,.int .i64 ax,.int .i64 wide,.int .i64 apart] w fun e w' => (∃ u,e=.returned (.tuple #[u,.int .i64 (winR how s d ax wide apart).1])∧OTen w' w.heap.size u (winR how s d ax wide apart).2.1 (winR how s d ax wide apart).2.2)∧Below w.heap.size w w' := by
 by_cases hk:(howOk how && winOk wide apart)=true
 ·have hk2:=hk;rw[Bool.and_eq_true,winOk_iff] at hk2;obtain⟨hh,hw1,hw2,ha1,ha2⟩:=hk2;have HK:=Hd hk;have HH:=Hd hh;clear hk hh;obtain⟨A,n,c,B,m,e,rfl,hnc,hme,hI,hJ⟩:=h;have h1:=((((Sep.nil w).old hJ).old hI).allocBox w.heap.size 71 [.slice A n c,.slice B m e] rfl).allocBox (w.heap.size+1) 71 [.slice none 0 0,.slice none 0 0] (by simp);have hsl:=hI.len;have hnle:=hI.le;have hmle:=hJ.le;have HFD:=Hd hJ.fit;have HDL:=Hd hJ.len
  go_enter Tryz.func77,Tryz.ntmps77
  go_upto_region 1 with fail
  generalize (w.alloc (.cells #[.slice A n c,.slice B m e] 71)).alloc (.cells #[.slice none 0 0,.slice none 0 0] 71)=W at *;have H:=Hd h1;clear h1 hI hJ;have HSL:=Hd hsl;clear hsl;have hT:=ten_mk (H.out.oldInts 2 rfl) hnc (H.out.oldInts 3 rfl) hme;have C1:=refTensor_any hT;have HT:=Hd hT;clear hT;obtain ⟨t0,t1⟩:=H.out.z2 1 rfl;have CH:=ref6How_any how W;have db1:decide (wide<1)=false:=by simp;omega
  have db2:decide (32<wide)=false:=by simp;omega
  have db3:decide (apart<1)=false:=by simp;omega
  have db4:decide (32<apart)=false:=by simp;omega
  rw[HH.out] at CH
  go_wp2_with fail
  refine CH.mono ?_;rintro e0 w0 ⟨rfl,rfl⟩;clear CH
  go_wp2_with fail
  cases hr:tenRight s d with
  | false =>
   rw[hr] at C1;refine C1.mono ?_;rintro e2 w2 ⟨rfl,hb2⟩;replace H:=Hd (H.out.below hb2);have HX:=Hd (winR_shape (ax:=ax) HK.out hr);obtain ⟨r0,r1⟩:=H.out.z2 0 rfl;obtain ⟨fr0,fr1⟩:=H.out.f2 0 rfl;clear hb2 hr C1 t0 t1;go_wp2;rw[HX.out]
   exact sep_ret2 ((H.out.setBox 0 0 (.slice none 0 0) rfl).setBox 0 1 (.slice none 0 0) rfl) 0 rfl (z:=.int .i64 13) Tryz.results77 rfl rfl rfl ⟨⟨_,rfl,_,_,0,0,rfl,OwnS.nil_ _ _ _,OwnS.nil_ _ _ _⟩,((H.out.setBox 0 0 (.slice none 0 0) rfl).setBox 0 1 (.slice none 0 0) rfl).base⟩
  | true =>
   rw[hr] at C1;refine C1.mono ?_;rintro e2 w2 ⟨rfl,hb2⟩;replace H:=Hd (H.out.below hb2);have HRT:=Hd hr;clear hb2 hr C1 t0 t1 HT;have hn4:n≤4:=by have:=(right_len HRT.out).1;have:=HSL.out;omega
   by_cases hx0:ax<0
   ·have db5:decide (ax<0)=true:=by simpa using hx0
    have HX:=Hd (winR_arg (wide:=wide) (apart:=apart) (ax:=ax) HK.out HRT.out (by cases hc:winAx s ax with|false=>rfl|true=>rw[winAx_iff,HSL.out] at hc;omega));obtain ⟨t0,t1⟩:=H.out.z2 1 rfl;obtain ⟨r0,r1⟩:=H.out.z2 0 rfl;obtain ⟨fr0,fr1⟩:=H.out.f2 0 rfl;go_wp2;rw[HX.out];exact sep_ret2 ((H.out.setBox 0 0 (.slice none 0 0) rfl).setBox 0 1 (.slice none 0 0) rfl) 0 rfl (z:=.int .i64 1) Tryz.results77 rfl rfl rfl ⟨⟨_,rfl,_,_,0,0,rfl,OwnS.nil_ _ _ _,OwnS.nil_ _ _ _⟩,((H.out.setBox 0 0 (.slice none 0 0) rfl).setBox 0 1 (.slice none 0 0) rfl).base⟩
   have db5:decide (ax<0)=false:=by simpa using hx0
   by_cases hx1:(n:Int)≤ax
   ·have db6:decide ((n:Int)≤ax)=true:=by simpa using hx1
    have HX:=Hd (winR_arg (wide:=wide) (apart:=apart) (ax:=ax) HK.out HRT.out (by cases hc:winAx s ax with|false=>rfl|true=>rw[winAx_iff,HSL.out] at hc;omega));obtain ⟨t0,t1⟩:=H.out.z2 1 rfl;obtain ⟨r0,r1⟩:=H.out.z2 0 rfl;obtain ⟨fr0,fr1⟩:=H.out.f2 0 rfl;go_wp2;rw[HX.out];exact sep_ret2 ((H.out.setBox 0 0 (.slice none 0 0) rfl).setBox 0 1 (.slice none 0 0) rfl) 0 rfl (z:=.int .i64 1) Tryz.results77 rfl rfl rfl ⟨⟨_,rfl,_,_,0,0,rfl,OwnS.nil_ _ _ _,OwnS.nil_ _ _ _⟩,((H.out.setBox 0 0 (.slice none 0 0) rfl).setBox 0 1 (.slice none 0 0) rfl).base⟩
   have db6:decide ((n:Int)≤ax)=false:=by simpa using hx1
   obtain⟨xx,rfl⟩:=Int.eq_ofNat_of_zero_le (by omega:0≤ax);have hxn:xx<n:=by omega
   have HXS:=Hd (show xx<s.length by rw[HSL.out];exact hxn);have db7:decide (n≤xx)=false:=by simp;omega
   clear hx0 hx1;have G0:=Hd (H.out.empty 3);obtain ⟨a0,a1⟩:=G0.out.z2 2 rfl;obtain ⟨t0,t1⟩:=H.out.z2 1 rfl
   go_wp2_with (at_builtin;refine wpList_appends_sep rfl (.tmp 52) (.tmp 54) 22 3 rfl Tryz.underlying22 Tryz.infoInt G0.out 0 rfl rfl A n c s rfl (G0.out.oldInts 3 rfl) ?c1 ?_)
   case c1=>omega
   intro v1 w1 h1;clear t0 t1 a0 a1 G0;obtain⟨Az,cz,hv,_,_,_⟩:=(h1.ownS 0 rfl).form;subst hv;replace H:=Hd h1;clear h1;obtain⟨sa,dx,hsA,_,hdx,_,hfdx⟩:=(H.out.oldInts 3 rfl).at_ (k:=xx) hxn;clear hsA;have hdb:=(Sh.right_iff.1 (right_of HRT.out)).2.1 dx (List.mem_of_getElem? hdx);have HGD:=Hd (show s.getD xx 0=dx by rw[List.getD_eq_getElem?_getD,hdx];rfl);obtain⟨gz,cb,hv,hO⟩:=(H.out.ownS 0 rfl).own (by omega);injection hv with hv1 _ hv3
   subst hv1;subst hv3;obtain⟨M,hM⟩:∃ M,winN dx wide apart=M:=⟨_,rfl⟩;have hMb:0≤M∧M≤dx:=by have h1:=winN_bd (n:=dx) (wide:=wide) (apart:=apart);rw[hM] at h1;exact⟨h1.1,h1.2 hdb.1⟩
   have hcz:=hO.cell hdx;have hfz:=hO.frozen xx;have CW:=ref8Windows_any dx wide apart hfdx ⟨by omega,by omega⟩ ⟨by omega,by omega⟩ w1;rw[hM] at CW;have h2:=H.out.store 0 xx (x:=M) ⟨by omega,by omega⟩ rfl;rw[show s.set xx M=winS s xx wide apart by rw[winS,HGD.out,hM]] at h2;have H2:=Hd h2;have HMW:=Hd hM;clear h2 hO hdx hM
   go_wp2_with fail
   refine CW.mono ?_;rintro e3 w3 ⟨rfl,rfl⟩;clear CW
   go_upto_region 9 with fail
   generalize w1.setCell ⟨gz,xx,none⟩ (.int .i64 M)=w2 at *;replace H:=H2;clear hcz hfz;obtain⟨Z,hZ⟩:∃ Z,winS s xx wide apart=Z:=⟨_,rfl⟩;have hS:=H.out;rw[hZ] at hS;have HZ:=Hd hZ;replace H:=Hd hS;clear hS hZ H2
   go_wp2_with fail
   refine(ref6None_any how _).mono ?_;rintro e6 w6 ⟨rfl,rfl⟩
   go_wp2_with fail
   refine(refFill_any (noneF how) ((H.out.ownInts 0 rfl).2.2) (by omega) (noneF_fits how)).mono ?_;rintro e4 w4 ⟨⟨u,rfl,hu⟩,hb4⟩;obtain⟨S1,ns,sc,D1,N,dc,rfl,hs1,hd1,hsc,hdc,hNle,h5⟩:=H.out.addTen hb4 hu;rw[List.length_replicate] at hd1;rw[hd1] at h5;have HN:=Hd hd1;have h6:=h5.allocBox w4.heap.size 71 [.slice S1 ns sc,.slice D1 N dc] rfl;clear hu hb4 h5 hd1 hs1
   go_upto_region 10 with fail
   generalize w4.alloc (.cells #[.slice S1 ns sc,.slice D1 N dc] 71)=w5 at *;generalize w4.heap.size=gt at *;replace H:=Hd h6;clear h6;have HRS:=Hd (right_of HRT.out);have HRZ:=Hd (show Sh.right Z=true by rw[← HZ.out];exact winS_right HRS.out HXS.out);obtain⟨tgt,htg⟩:∃ x,winD how s d xx wide apart=x:=⟨_,rfl⟩;have HTG:=Hd (show tgt.length=N by rw[← htg,winD_length,HZ.out];exact HN.out);have HQ:=Hd htg;clear htg;have HAT:=Hd (show ∀ i:Nat,i<N→tgt[i]? = some (winI how s d xx wide apart i wide.toNat) from fun i hi=>by rw[← HQ.out,winD,HZ.out,gen_at (by have:=HN.out;omega)]);obtain ⟨o0,o1⟩:=H.out.z2 0 rfl
   go_wp2_with fail
   clear o0 o1
   go_loopw [73] (fun kv wr=>∃ i:Nat,kv=.int .i64 i∧i≤N∧Sep w wr [.box gt 71 [.slice S1 ns sc,.slice D1 N dc],.own 3 (.slice S1 ns sc) ns Z,.own 2 (.slice D1 N dc) N (mix tgt (List.replicate N (noneF how)) i),.own 3 (.slice (some ⟨gz,0,none⟩) n cz) n Z,.box (w.heap.size+1) 71 [.slice none 0 0,.slice none 0 0],.box w.heap.size 71 [.slice A n c,.slice B m e],.ints A n s,.ints B m d]) (fun kv _=>N - (intOf kv).toNat)
   case atStart=>exact⟨0,rfl,by omega,by rw[mix_zero];exact H.out⟩
   case round =>
    clear H;obtain⟨i,rfl,hi,hS⟩:=hrel;have H:=Hd hS;clear hS;by_cases hli:i<N
    ·have hiz:(i:Int)<Sh.size Z:=by have:=HN.out;omega
     have hd3:decide (i<N)=true:=by simpa using hli
     obtain⟨w9,rfl⟩:∃ w9:World,w9=wr:=⟨_,rfl⟩;have HWP:=Hd (fun (j:Nat) (hj:(j:Int)<wide)=>win_place (i:=i) (j:=j) (wide:=wide) (apart:=apart) HRS.out HXS.out (by rw[HZ.out];exact hiz) hj ha1);obtain⟨r,hr,hr0,hr1,_⟩:=HWP.out 0 (by omega);rw[HZ.out] at hr;rw[HGD.out,HMW.out] at hr1
     go_wp2_with fail
     refine(refPlace_own i ((H.out.ownInts 3 rfl).2.2) ⟨by omega,by omega⟩).mono ?_;rintro e7 w7 ⟨⟨v7,n7,rfl,hO⟩,hb7⟩;obtain⟨A7,c7,rfl,hc7,_,_⟩:=hO.form;have hp7:n=n7:=by have:=hO.len;have h2:=(placeOf_of hiz).2.1;rw[← HZ.out,winS_length] at h2;rw[← HZ.out] at this;have:=HSL.out;omega
     subst hp7;obtain⟨P,hP⟩:∃ P,Sh.placeOf Z i=P:=⟨_,rfl⟩;rw[hP] at hO hr;have HP:=Hd hP;replace H:=Hd (H.out.addOwn hb7 hO);clear hO hb7 hP;obtain⟨gp,cb,hv,hO⟩:=(H.out.ownS 0 rfl).own (by omega);injection hv with hv1 _ hv3
     subst hv1;subst hv3;have hcp:=hO.cell hr;clear hO;have HR:=Hd hr;have hra:r*apart≤32*32:=Int.mul_le_mul (by omega) ha2 (by omega) (by omega);have hra0:0≤r*apart:=Int.mul_nonneg hr0 (by omega);obtain⟨Q,hQ⟩:∃ Q,r*apart=Q:=⟨_,rfl⟩;have hwq:IntKind.i64.wrap (r*apart)=Q:=by rw[hQ];exact IntWalk.i64_in _ ⟨by omega,by omega⟩
     rw[hQ] at hra hra0;have HQR:=Hd hQ;clear hQ hr
     go_wp2_with fail
     clear hcp hwq
     go_loopw [17] (fun jv wr=>∃(J:Nat) (y:Int),jv=.int .i64 J∧J≤wide.toNat∧Sep w wr [.own 3 (.slice (some ⟨gp,0,none⟩) n c7) n (P.set xx y),.box gt 71 [.slice S1 ns sc,.slice D1 N dc],.own 3 (.slice S1 ns sc) ns Z,.own 2 (.slice D1 N dc) N ((mix tgt (List.replicate N (noneF how)) i).set i (winI how s d xx wide apart i J)),.own 3 (.slice (some ⟨gz,0,none⟩) n cz) n Z,.box (w.heap.size+1) 71 [.slice none 0 0,.slice none 0 0],.box w.heap.size 71 [.slice A n c,.slice B m e],.ints A n s,.ints B m d]) (fun jv _=>wide.toNat-(intOf jv).toNat)
     case atStart=>exact⟨0,r,rfl,by omega,by rw[show winI how s d xx wide apart i 0=noneF how from rfl,set_same_ (mix_rep HTG.out hli),set_same_ HR.out];exact H.out⟩
     case round =>
      clear H;obtain⟨J,y,rfl,hJ,hS⟩:=hrel;have H:=Hd hS;clear hS;by_cases hlj:(J:Int)<wide
      ·have hd4:decide ((J:Int)<wide)=true:=by simpa using hlj
       obtain⟨r2,hr2,_,_,hx1,hx2,_⟩:=HWP.out J hlj;rw[HZ.out,HP.out,HR.out] at hr2;injection hr2 with hr2
       subst hr2;rw[HZ.out,HP.out,HQR.out] at hx1 hx2;have hst:=winI_step (how:=how) (d:=d) HRS.out HXS.out (by rw[HZ.out];exact hiz) hlj ha1 (r:=r) (by rw[HZ.out,HP.out];exact HR.out);rw[HZ.out,HP.out,HQR.out] at hst;obtain⟨zz,hzz⟩:∃ z,Q+(J:Int)=z:=⟨_,rfl⟩;have hwz:IntKind.i64.wrap (Q+(J:Int))=zz:=by rw[hzz];exact IntWalk.i64_in _ ⟨by omega,by omega⟩
       have hzb:0≤zz∧zz≤4096:=by omega
       rw[hzz] at hx1 hx2 hst;clear hzz;obtain⟨yz,hyz⟩:=getElem_of (l:=P.set xx y) (k:=xx) (by have:=(H.out.ownInts 0 rfl).2.2.len;omega);have hcp:=(H.out.own 0 rfl).cell hyz;have hfp:=(H.out.own 0 rfl).frozen xx;have h9:=H.out.store 0 xx (x:=zz) ⟨by omega,by omega⟩ rfl;rw[List.set_set] at h9;have H9:=Hd h9;clear h9 hyz
       go_upto_region 19 with fail
       generalize wr.setCell ⟨gp,xx,none⟩ (.int .i64 zz)=wz at *;replace H:=H9;clear H9 hcp hfp hwz;obtain⟨X,hX⟩:∃ X,P.set xx zz=X:=⟨_,rfl⟩;have hS:=H.out;rw[hX] at hx1 hx2 hst hS;replace H:=Hd hS;have HX:=Hd hX;clear hS hX;obtain⟨gb,cb,hv,hO⟩:=(H.out.ownS 3 rfl).own (by omega);injection hv with hv1 _ hv3
       subst hv1;subst hv3;clear hO;obtain⟨u,hu⟩:∃ u,num s d X=u:=⟨_,rfl⟩;obtain⟨V,hV⟩:∃ V,winI how s d xx wide apart i J=V:=⟨_,rfl⟩;have hfV:Fits V:=by rw[← hV];exact winV_fits HFD.out _ _ _ _ _ _
       have hfu:Fits u:=by rw[← hu];exact num_fits HFD.out
       rw[hu,hV] at hst;have hS:=H.out;rw[hV] at hS;replace H:=Hd hS;clear hS hV;have HST:=Hd (show((mix tgt (List.replicate N (noneF how)) i).set i V).set i (putF how V u)=(mix tgt (List.replicate N (noneF how)) i).set i (winI how s d xx wide apart i (J+1)) by rw[List.set_set,hst]);have HZV:=Hd (show((mix tgt (List.replicate N (noneF how)) i).set i V)[i]? = some V by rw[List.getElem?_set_self (by rw[mix_length (by rw[HTG.out,List.length_replicate]),List.length_replicate];exact hli)]);have HFP:=Hd (putF_fits how hfV hfu);have H0:=Hd H.out.drew;have CX:=ref4Number_any (c:=c7) (ten_mk (H0.out.oldInts 7 rfl) hnc (H0.out.oldInts 8 rfl) hme) (H0.out.ownInts 0 rfl).2.2 HRT.out hx1 hx2;rw[hu] at CX;clear hst hu hx1 hx2 hfV hfu;have ci0:=H0.out.cell 1 1 rfl rfl;obtain ⟨ci1,ci2⟩:=H0.out.z2 6 rfl;refine wp_region_held_drew (S:=(fun w' => w'.cell? ⟨gt,1,none⟩=some (.slice (some ⟨gb,0,none⟩) N dc)∧w'.cell? ⟨w.heap.size,0,none⟩=some (.slice A n c)∧w'.cell? ⟨w.heap.size,1,none⟩=some (.slice B m e))) (by kernel_rfl) ?_ (fun hq_=>?_)
       ·exact⟨ci0,ci1,ci2⟩
       refine zW 0 hq_ ?_
       try simp only[pA]
       refine zW 1 hq_ ?_
       try simp only[pA]
       refine zW 2 hq_ ?_
       try simp only[pA]
       refine zW 3 hq_ ?_
       try simp only[pA]
       refine zW 4 hq_ ?_
       try simp only[pA]
       refine zW 5 hq_ ?_
       try simp only[pA]
       refine zW 6 hq_ ?_
       try simp only[pA]
       refine zW 7 hq_ ?_
       try simp only[pA]
       refine zW 9 hq_ ?_
       try simp only[pA]
       refine zW 10 hq_ ?_
       try simp only[pA]
       refine rD [8,11] (aC (fun K hK=>?_) (aC (fun K hK=>?_) AllReadyH.nil))
       ·(have hcz:=(H0.out.own 3 rfl).cell HZV.out)
        go_simp
        try go_wp2_with fail
        refine zK hK ?_;clear hK K hq_;intro hq_
        try simp only[pA]
        refine e1 11 fun K hK=>?_
        first|(refine effU ?_ ?_;(focus rfl))|(go_simp;(go_at_call 97;refine CX.mono ?_;rintro e6 x1 ⟨rfl,hb1⟩;have H1:=Hd (H0.out.below hb1);have cm0:=H1.out.cell 1 1 rfl rfl;obtain ⟨cm1,cm2⟩:=H1.out.z2 6 rfl;clear hb1);go_wp2_with fail)
        refine zK hK ?_ ⟨cm0,cm1,cm2⟩;clear hK K hq_;intro hq_
        try simp only[pA]
        refine e1 12 fun K hK=>?_
        first|(refine effU ?_ ?_;(focus rfl))|(go_simp;(go_at_call 104;refine(ref6Put_any how V u _).mono ?_;rintro e8 x2 ⟨rfl,rfl⟩);go_wp2_with fail)
        refine zK hK ?_ ⟨cm0,cm1,cm2⟩;clear hK K hq_;intro hq_
        try simp only[pA]
        refine zW 13 hq_ ?_
        try simp only[pA]
        refine e1 14 fun K hK=>?_
        (have hcs:=(H1.out.own 3 rfl).cell HZV.out;have hfs:=(H1.out.own 3 rfl).frozen i;have h9:=H1.out.store 3 i (x:=putF how V u) HFP.out rfl;rw[HST.out] at h9;have HS9:=Hd h9;clear h9;have cg0:=HS9.out.cell 1 1 rfl rfl;obtain ⟨cg1,cg2⟩:=HS9.out.z2 6 rfl)
        go_simp
        try go_wp2_with fail
        refine zK hK ?_ ⟨cg0,cg1,cg2⟩;clear hK K hq_;intro hq_
        try simp only[pA]
        refine wpAnyH_done (by kernel_rfl) ?_ _;go_wp2;go_roundw
        case rel=>exact⟨J+1,zz,by go_num,by omega,by rw[HX.out];exact HS9.out⟩
        case measure=>simp[intOf];omega
       ·first|(refine effU ?_ ?_;(focus rfl))|(go_simp;(go_at_call 97;refine CX.mono ?_;rintro e6 x1 ⟨rfl,hb1⟩;have H1:=Hd (H0.out.below hb1);have cm0:=H1.out.cell 1 1 rfl rfl;obtain ⟨cm1,cm2⟩:=H1.out.z2 6 rfl;clear hb1);go_wp2_with fail)
        refine zK hK ?_ ⟨cm0,cm1,cm2⟩;clear hK K hq_;intro hq_
        try simp only[pA]
        refine e1 8 fun K hK=>?_
        (have hcz:=(H1.out.own 3 rfl).cell HZV.out)
        go_simp
        try go_wp2_with fail
        refine zK hK ?_;clear hK K hq_;intro hq_
        try simp only[pA]
        refine e1 12 fun K hK=>?_
        first|(refine effU ?_ ?_;(focus rfl))|(go_simp;(go_at_call 104;refine(ref6Put_any how V u _).mono ?_;rintro e8 x2 ⟨rfl,rfl⟩);go_wp2_with fail)
        refine zK hK ?_ ⟨cm0,cm1,cm2⟩;clear hK K hq_;intro hq_
        try simp only[pA]
        refine zW 13 hq_ ?_
        try simp only[pA]
        refine e1 14 fun K hK=>?_
        (have hcs:=(H1.out.own 3 rfl).cell HZV.out;have hfs:=(H1.out.own 3 rfl).frozen i;have h9:=H1.out.store 3 i (x:=putF how V u) HFP.out rfl;rw[HST.out] at h9;have HS9:=Hd h9;clear h9;have cg0:=HS9.out.cell 1 1 rfl rfl;obtain ⟨cg1,cg2⟩:=HS9.out.z2 6 rfl)
        go_simp
        try go_wp2_with fail
        refine zK hK ?_ ⟨cg0,cg1,cg2⟩;clear hK K hq_;intro hq_
        try simp only[pA]
        refine wpAnyH_done (by kernel_rfl) ?_ _;go_wp2;go_roundw
        case rel=>exact⟨J+1,zz,by go_num,by omega,by rw[HX.out];exact HS9.out⟩
        case measure=>simp[intOf];omega
      ·have hjm:J=wide.toNat:=by omega
       have hd4:decide ((J:Int)<wide)=false:=by simpa using hlj
       have hS:=H.out;rw[hjm,mix_step HTG.out (HAT.out i hli)] at hS;replace H:=Hd hS;clear hS hjm;go_wp2;go_roundw
       case rel=>exact⟨i+1,by go_num,by omega,H.out.sub [1,2,3,4,5,6,7,8] rfl (by decide)⟩
       case measure=>simp[intOf];omega
    ·have hin:N=i:=by omega
     subst hin;have hS:=H.out;rw[mix_end HTG.out,← HQ.out] at hS;replace H:=Hd hS;clear hS;have HQ3:=Hd (show winR how s d xx wide apart=(0,Z,winD how s d xx wide apart) by rw[winR_ok HK.out HRT.out HXS.out,HZ.out]);obtain ⟨o0,o1⟩:=H.out.z2 0 rfl;obtain ⟨r0,r1⟩:=H.out.z2 4 rfl;obtain ⟨fr0,fr1⟩:=H.out.f2 4 rfl;go_wp2;rw[HQ3.out];exact sep_ret2 ((H.out.setBox 4 0 (.slice S1 ns sc) rfl).setBox 4 1 (.slice D1 N dc) rfl) 4 rfl (z:=.int .i64 0) Tryz.results77 rfl rfl rfl ⟨⟨_,rfl,_,_,ns,N,rfl,((H.out.setBox 4 0 (.slice S1 ns sc) rfl).setBox 4 1 (.slice D1 N dc) rfl).ownS 1 rfl,((H.out.setBox 4 0 (.slice S1 ns sc) rfl).setBox 4 1 (.slice D1 N dc) rfl).ownS 2 rfl⟩,((H.out.setBox 4 0 (.slice S1 ns sc) rfl).setBox 4 1 (.slice D1 N dc) rfl).base⟩
 ·have hkf:(howOk how && winOk wide apart)=false:=by simpa using hk
  have HX:=Hd (winR_how (s:=s) (d:=d) (ax:=ax) hkf);obtain⟨A,n,c,B,m,e,rfl,hnc,hme,hI,hJ⟩:=h;have h1:=((Sep.nil w).allocBox w.heap.size 71 [.slice A n c,.slice B m e] rfl).allocBox (w.heap.size+1) 71 [.slice none 0 0,.slice none 0 0] (by simp);have C1:=ref6How_any how ((w.alloc (.cells #[.slice A n c,.slice B m e] 71)).alloc (.cells #[.slice none 0 0,.slice none 0 0] 71))
  cases hh:howOk how with
  | false =>
   rw[hh] at C1
   go_enter Tryz.func77,Tryz.ntmps77
   go_upto_region 1 with fail
   generalize (w.alloc (.cells #[.slice A n c,.slice B m e] 71)).alloc (.cells #[.slice none 0 0,.slice none 0 0] 71)=W at *;have H:=Hd h1;clear h1 hh hkf hk
   go_wp2_with fail
   refine C1.mono ?_;rintro e1 w1 ⟨rfl,rfl⟩;obtain ⟨r0,r1⟩:=H.out.z2 0 rfl;obtain ⟨fr0,fr1⟩:=H.out.f2 0 rfl;clear C1;go_wp2;rw[HX.out]
   exact sep_ret2 ((H.out.setBox 0 0 (.slice none 0 0) rfl).setBox 0 1 (.slice none 0 0) rfl) 0 rfl (z:=.int .i64 1) Tryz.results77 rfl rfl rfl ⟨⟨_,rfl,_,_,0,0,rfl,OwnS.nil_ _ _ _,OwnS.nil_ _ _ _⟩,((H.out.setBox 0 0 (.slice none 0 0) rfl).setBox 0 1 (.slice none 0 0) rfl).base⟩
  | true =>
   rw[hh] at C1;have hwk:¬ (1≤wide∧wide≤32∧1≤apart∧apart≤32):=fun hc=>by rw[hh,winOk_iff.2 hc] at hkf;cases hkf
   clear hh hkf hk;by_cases g0:wide<1
   ·have dg0:decide (wide<1)=true:=by simpa using g0
    go_enter Tryz.func77,Tryz.ntmps77
    go_upto_region 1 with fail
    generalize (w.alloc (.cells #[.slice A n c,.slice B m e] 71)).alloc (.cells #[.slice none 0 0,.slice none 0 0] 71)=W at *;have H:=Hd h1;clear h1 hwk
    go_wp2_with fail
    refine C1.mono ?_;rintro e1 w1 ⟨rfl,rfl⟩;obtain ⟨r0,r1⟩:=H.out.z2 0 rfl;obtain ⟨fr0,fr1⟩:=H.out.f2 0 rfl;clear C1;go_wp2;rw[HX.out];exact sep_ret2 ((H.out.setBox 0 0 (.slice none 0 0) rfl).setBox 0 1 (.slice none 0 0) rfl) 0 rfl (z:=.int .i64 1) Tryz.results77 rfl rfl rfl ⟨⟨_,rfl,_,_,0,0,rfl,OwnS.nil_ _ _ _,OwnS.nil_ _ _ _⟩,((H.out.setBox 0 0 (.slice none 0 0) rfl).setBox 0 1 (.slice none 0 0) rfl).base⟩
   have dg0:decide (wide<1)=false:=by simpa using g0
   by_cases g1:32<wide
   ·have dg1:decide (32<wide)=true:=by simpa using g1
    go_enter Tryz.func77,Tryz.ntmps77
    go_upto_region 1 with fail
    generalize (w.alloc (.cells #[.slice A n c,.slice B m e] 71)).alloc (.cells #[.slice none 0 0,.slice none 0 0] 71)=W at *;have H:=Hd h1;clear h1 hwk
    go_wp2_with fail
    refine C1.mono ?_;rintro e1 w1 ⟨rfl,rfl⟩;obtain ⟨r0,r1⟩:=H.out.z2 0 rfl;obtain ⟨fr0,fr1⟩:=H.out.f2 0 rfl;clear C1;go_wp2;rw[HX.out];exact sep_ret2 ((H.out.setBox 0 0 (.slice none 0 0) rfl).setBox 0 1 (.slice none 0 0) rfl) 0 rfl (z:=.int .i64 1) Tryz.results77 rfl rfl rfl ⟨⟨_,rfl,_,_,0,0,rfl,OwnS.nil_ _ _ _,OwnS.nil_ _ _ _⟩,((H.out.setBox 0 0 (.slice none 0 0) rfl).setBox 0 1 (.slice none 0 0) rfl).base⟩
   have dg1:decide (32<wide)=false:=by simpa using g1
   by_cases g2:apart<1
   ·have dg2:decide (apart<1)=true:=by simpa using g2
    go_enter Tryz.func77,Tryz.ntmps77
    go_upto_region 1 with fail
    generalize (w.alloc (.cells #[.slice A n c,.slice B m e] 71)).alloc (.cells #[.slice none 0 0,.slice none 0 0] 71)=W at *;have H:=Hd h1;clear h1 hwk
    go_wp2_with fail
    refine C1.mono ?_;rintro e1 w1 ⟨rfl,rfl⟩;obtain ⟨r0,r1⟩:=H.out.z2 0 rfl;obtain ⟨fr0,fr1⟩:=H.out.f2 0 rfl;clear C1;go_wp2;rw[HX.out];exact sep_ret2 ((H.out.setBox 0 0 (.slice none 0 0) rfl).setBox 0 1 (.slice none 0 0) rfl) 0 rfl (z:=.int .i64 1) Tryz.results77 rfl rfl rfl ⟨⟨_,rfl,_,_,0,0,rfl,OwnS.nil_ _ _ _,OwnS.nil_ _ _ _⟩,((H.out.setBox 0 0 (.slice none 0 0) rfl).setBox 0 1 (.slice none 0 0) rfl).base⟩
   have dg2:decide (apart<1)=false:=by simpa using g2
   by_cases g3:32<apart
   ·have dg3:decide (32<apart)=true:=by simpa using g3
    go_enter Tryz.func77,Tryz.ntmps77
    go_upto_region 1 with fail
    generalize (w.alloc (.cells #[.slice A n c,.slice B m e] 71)).alloc (.cells #[.slice none 0 0,.slice none 0 0] 71)=W at *;have H:=Hd h1;clear h1 hwk
    go_wp2_with fail
    refine C1.mono ?_;rintro e1 w1 ⟨rfl,rfl⟩;obtain ⟨r0,r1⟩:=H.out.z2 0 rfl;obtain ⟨fr0,fr1⟩:=H.out.f2 0 rfl;clear C1;go_wp2;rw[HX.out];exact sep_ret2 ((H.out.setBox 0 0 (.slice none 0 0) rfl).setBox 0 1 (.slice none 0 0) rfl) 0 rfl (z:=.int .i64 1) Tryz.results77 rfl rfl rfl ⟨⟨_,rfl,_,_,0,0,rfl,OwnS.nil_ _ _ _,OwnS.nil_ _ _ _⟩,((H.out.setBox 0 0 (.slice none 0 0) rfl).setBox 0 1 (.slice none 0 0) rfl).base⟩
   have dg3:decide (32<apart)=false:=by simpa using g3
   exact absurd ⟨by omega,by omega,by omega,by omega⟩ hwk
end Go.Proofs.YtnnmplkgenhofaaGreat
