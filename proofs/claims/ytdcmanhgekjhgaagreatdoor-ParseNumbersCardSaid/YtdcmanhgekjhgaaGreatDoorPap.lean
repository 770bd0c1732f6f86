import Derived.Test.YtdcmanhgekjhgaaGreatDoorPah
import Derived.Test.YtdcmanhgekjhgaaGreatDoorPal
import Derived.Test.YtdcmanhgekjhgaaGreatDoorPao
set_option maxRecDepth 100000
set_option maxHeartbeats 12800000
namespace Go.Proofs.YtdcmanhgekjhgaaGreatDoor
open Go.RowKit Go.Proofs.Tryz
variable {A:Option Addr} {a:Addr} {apart ax how r wide:Int} {c i j k n:Nat} {d s xs:List Int} {l:TL} {w w1:World} {x y:List Int × List Int}
def winN (n wide apart:Int):Int:=if n<0∨wide<1∨apart<1∨n<wide then 0 else(n-wide) / apart+1
theorem a9j {n:Int}(h:n<0∨wide<1∨apart<1∨n<wide):winN n wide apart=0:=by rw[winN,iP h]
theorem b6r {n:Int}(h:¬(n<0∨wide<1∨apart<1∨n<wide)):winN n wide apart=(n-wide) / apart+1:=by rw[winN,iN h]
theorem c4k {n:Int}:0≤winN n wide apart∧(0≤n→winN n wide apart≤n):=by
 by_cases h:n<0∨wide<1∨apart<1∨n<wide
 ·rw[a9j h];omega
 ·rw[b6r h];have h1:=Int.ediv_nonneg (a:=n-wide) (b:=apart) (by omega) (by omega);have h2:=Int.ediv_le_self (a:=n-wide) apart (by omega);omega
theorem e7b {n j:Int}(hr:0≤r)(h:r<winN n wide apart)(hj:0≤j)(hjw:j<wide)(ha:1≤apart):0≤r*apart+j∧r*apart+j<n:=by
 by_cases hc:n<0∨wide<1∨apart<1∨n<wide
 ·rw[a9j hc] at h;omega
 ·rw[b6r hc] at h;have h1:r*apart≤(n-wide) / apart*apart:=Int.mul_le_mul_of_nonneg_right (by omega) (by omega);have h2:=Int.ediv_mul_le (n-wide) (show apart≠0 by omega);have h3:0≤r*apart:=Int.mul_nonneg hr (by omega);omega
def b4a (wide apart:Int):Bool:=decide (1≤wide)&&decide (wide≤32)&&decide (1≤apart)&&decide (apart≤32)
theorem b4b:b4a wide apart=true↔1≤wide∧wide≤32∧1≤apart∧apart≤32:=by simp[b4a,and_assoc]
def b5e (s:List Int) (ax:Int):Bool:=decide (0≤ax)&&decide (ax<s.length)
theorem b0u:b5e s ax=true↔0≤ax∧ax<s.length:=by simp[b5e]
def winS (s:List Int) (ax:Nat) (wide apart:Int):List Int:=s.set ax (winN (s.getD ax 0) wide apart)
def winB (s:List Int) (ax:Nat):Nat:=(Sh.pd (s.drop (ax+1))).toNat
def e5x (n N B apart i j:Nat):Nat:=(i / (N*B)*n+(i / B % N*apart+j))*B+i % B
def winV (how:Int) (d:List Int) (n N B apart i:Nat):Nat→Int
 | 0=>a9o how
 | J+1=>putF how (winV how d n N B apart i J) (d.getD (e5x n N B apart i J) 0)
def winI (how:Int) (s d:List Int) (ax:Nat) (wide apart:Int) (i J:Nat):Int:=winV how d (s.getD ax 0).toNat (winN (s.getD ax 0) wide apart).toNat (winB s ax) apart.toNat i J
def winD (how:Int) (s d:List Int) (ax:Nat) (wide apart:Int):List Int:=gen (Sh.size (winS s ax wide apart)).toNat fun i=>winI how s d ax wide apart i wide.toNat
def winR (how:Int) (s d:List Int) (ax wide apart:Int):Int × List Int × List Int :=
 if a5g how&&b4a wide apart then(if a0b s d then(if b5e s ax then(0,winS s ax.toNat wide apart,winD how s d ax.toNat wide apart) else refused 1) else refused 13) else refused 1
theorem d2a (h:(a5g how&&b4a wide apart)=false):winR how s d ax wide apart=refused 1:=by rw[winR,h];rfl
theorem d4p (h:(a5g how&&b4a wide apart)=true)(g:a0b s d=false):winR how s d ax wide apart=refused 13:=by rw[winR,iP h,g];rfl
theorem c4l (h:(a5g how&&b4a wide apart)=true)(g:a0b s d=true)(f:b5e s ax=false):winR how s d ax wide apart=refused 1:=by rw[winR,iP h,iP g,f];rfl
theorem d9s {ax:Nat}(h:(a5g how&&b4a wide apart)=true)(g:a0b s d=true)(f:ax<s.length):winR how s d ax wide apart=(0,winS s ax wide apart,winD how s d ax wide apart):=by
 rw[winR,iP h,iP g,iP (b0u.2 ⟨by omega,by omega⟩),Int.toNat_natCast]
theorem c7r {how:Int}{d:List Int}(hd:∀ x∈d,Fits x)(n N B apart i:Nat):∀ J,Fits (winV how d n N B apart i J)
 | 0=>b1h how
 | J+1=>b3l how (c7r hd n N B apart i J) (b7l hd _)
theorem d0a (how:Int)(s d:List Int)(ax:Nat)(wide apart:Int):(winD how s d ax wide apart).length=(Sh.size (winS s ax wide apart)).toNat:=a5u _ _
theorem b9y (s:List Int)(ax:Nat)(wide apart:Int):(winS s ax wide apart).length=s.length:=by simp[winS]
theorem c2h {ax:Nat}(h:Sh.right s=true)(hx:ax<s.length):Sh.right (winS s ax wide apart)=true:=by
 obtain⟨x,hx'⟩:=a0h hx;have hb:=(Sh.right_iff.1 h).2.1 x (mG hx');have e:s.getD ax 0=x:=by rw[gD,hx'];rfl
 rw[winS,e];exact d3u h hx' c4k.1 (c4k.2 hb.1)
theorem c7s {ax:Nat}(h:Sh.right s=true)(hx:ax<s.length)(hi:(i:Int)<Sh.size (winS s ax wide apart))(hj:(j:Int)<wide)(ha:1≤apart):
  ∃ r:Int,(Sh.placeOf (winS s ax wide apart) i)[ax]?=some r∧0≤r∧r<winN (s.getD ax 0) wide apart ∧
  ((Sh.placeOf (winS s ax wide apart) i).set ax (r*apart+j)).length=s.length∧Sh.within s ((Sh.placeOf (winS s ax wide apart) i).set ax (r*apart+j))=true ∧
  Sh.index s ((Sh.placeOf (winS s ax wide apart) i).set ax (r*apart+j))=(e5x (s.getD ax 0).toNat (winN (s.getD ax 0) wide apart).toNat (winB s ax) apart.toNat i j:Int):=by
 obtain⟨n,hn⟩:=a0h hx;have eN:s.getD ax 0=n:=by rw[gD,hn];rfl
 have hnb:=(Sh.right_iff.1 h).2.1 n (mG hn);obtain⟨hp0,hpl,hpw,hpr⟩:=a1q hi;rw[eN];obtain⟨N,hN⟩:∃ N,winN n wide apart=N:=⟨_,rfl⟩
 have es:s=s.take ax++n::s.drop (ax+1):=by
  have:=List.take_append_drop ax s;rw[List.drop_eq_getElem_cons hx] at this;have e2:s[ax]=n:=by rw[List.getElem?_eq_getElem hx] at hn;injection hn
  rw[e2] at this;exact this.symm
 have eS:winS s ax wide apart=s.take ax++N::s.drop (ax+1):=by
  rw[winS,eN,hN]
  conv=>lhs;rw[es]
  rw[List.set_append_right _ _ (by simp;omega)];simp[show min ax s.length=ax by omega]
 have hl:(s.take ax).length=ax:=by simp;omega
 have hB:winB s ax=(Sh.pd (s.drop (ax+1))).toNat:=rfl;obtain⟨hd,hhd⟩:∃ l,s.take ax=l:=⟨_,rfl⟩;obtain⟨v,hv⟩:∃ l,s.drop (ax+1)=l:=⟨_,rfl⟩;rw[hhd,hv] at es eS;rw[hhd] at hl;rw[hv] at hB;have hpos:∀ x∈hd++N::v,1≤x∧x≤32:=by rw[←eS];exact(Sh.size_pos (by omega) hi).2
 have hpu:∀ x∈hd,1≤x∧x≤32:=fun x hx=>hpos x (List.mem_append.2 (.inl hx))
 have hpw' : ∀ x∈v,1≤x∧x≤32:=fun x hx=>hpos x (List.mem_append.2 (.inr (List.mem_cons_of_mem _ hx)))
 have hpv:0<Sh.pd v:=d1q fun x hx=>(hpw' x hx).1
 have hN1:1≤N:=(hpos N (by simp)).1;obtain⟨V,hV⟩:=eZ (show 0≤Sh.pd v by omega);obtain⟨Nn,hNn⟩:=eZ (show 0≤N by omega);obtain⟨nn,hnn⟩:=eZ hnb.1;obtain⟨aa,haa⟩:=eZ (show 0≤apart by omega)
 have eP:Sh.placeOf (winS s ax wide apart) i=Sh.place hd (i / (N*Sh.pd v))++(((i:Int) / Sh.pd v) % N)::Sh.place v i:=by
  rw[hp0,eS,a7s _ _ (fun x hx=>by have:=hpu x hx;omega) (by rw[Sh.pd];exact Int.mul_nonneg (by omega) (by omega))]
  rfl
 have hlp:(Sh.place hd (i / (N*Sh.pd v))).length=ax:=by rw[Sh.place_length,hl]
 obtain⟨r,hr⟩:∃ r,((i:Int) / Sh.pd v) % N=r:=⟨_,rfl⟩;have hr0:0≤r:=by rw[←hr];exact Int.emod_nonneg _ (by omega)
 have hr1:r<N:=by rw[←hr];exact Int.emod_lt_of_pos _ (by omega)
 rw[hr] at eP
 have hat:(Sh.placeOf (winS s ax wide apart) i)[ax]?=some r:=by
  rw[eP,List.getElem?_append_right (by omega),hlp,Nat.sub_self];rfl
 have hin:=e7b hr0 (by rw[hN];exact hr1) (show(0:Int)≤j by omega) hj ha;obtain⟨z,hz⟩:∃ z,r*apart+(j:Int)=z:=⟨_,rfl⟩
 have eq:(Sh.placeOf (winS s ax wide apart) i).set ax (r*apart+j)=Sh.place hd (i / (N*Sh.pd v))++(z::Sh.place v i):=by
  rw[eP,List.set_append_right _ _ (by omega),hlp,Nat.sub_self,hz];rfl
 have hw:Sh.within s ((Sh.placeOf (winS s ax wide apart) i).set ax (r*apart+j))=true:=by
  rw[eq,es];refine a6r (by rw[Sh.place_length]) (Sh.within_place hpu _) ?_;rw[Sh.within_iff,List.zip_cons_cons];intro x hx;rcases List.mem_cons.1 hx with rfl|hx
  ·rw[hz] at hin;exact hin
  ·exact(Sh.within_iff.1 (Sh.within_place hpw' _)) x hx
 have hlen:((Sh.placeOf (winS s ax wide apart) i).set ax (r*apart+j)).length=s.length:=by rw[List.length_set,hpl,b9y]
 refine⟨r,hat,hr0,by rw[hN];exact hr1,hlen,hw,?_⟩;rw[Sh.index_of h hlen hw,Sh.hor_lin hlen,eq,hB,es,b1e _ _ _ _ (Sh.place_length _ _)]
 show _*(n*Sh.pd v)+(z*Sh.pd v+Sh.lin v (Sh.place v i))=_
 have hlt:(i:Int) / (N*Sh.pd v)<Sh.pd hd:=by
  have:=hi;rw[Sh.size_of hpr,Sh.pr_pd,eS,Sh.pd_append,Sh.pd] at this;exact Int.ediv_lt_of_lt_mul (Int.mul_pos (by omega) hpv) this
 rw[Sh.lin_place _ (fun x hx=>by have:=hpu x hx;omega),Sh.lin_place _ (fun x hx=>by have:=hpw' x hx;omega),
  Int.emod_eq_of_lt (Int.ediv_nonneg (by omega) (Int.le_of_lt (Int.mul_pos (by omega) hpv))) hlt,hN,←hz,←hr,e5x,hV,hNn,hnn,haa]
 simp only[Int.toNat_natCast]
 push_cast
 simp only[Int.add_mul,Int.mul_assoc];omega
theorem d9r {ax:Nat}(h:Sh.right s=true)(hx:ax<s.length)(hi:(i:Int)<Sh.size (winS s ax wide apart))(hj:(j:Int)<wide)(ha:1≤apart)(hr:(Sh.placeOf (winS s ax wide apart) i)[ax]?=some r):
  putF how (winI how s d ax wide apart i j) (num s d ((Sh.placeOf (winS s ax wide apart) i).set ax (r*apart+j)))=winI how s d ax wide apart i (j+1):=by
 obtain⟨r', hr', _,_,_,_,hix⟩:=c7s h hx hi hj ha;rw[hr] at hr';injection hr' with hr';subst hr'
 rw[num,hix,Int.toNat_natCast];rfl
theorem b9a (n wide apart:Int)(hn:Fits n)(hw:Fits wide)(ha:Fits apart)(w:World):
  Calls prog 122 #[.int .i64 n,.int .i64 wide,.int .i64 apart] w fun e w'=>e=.returned (.int .i64 (winN n wide apart))∧w=w':=by
 obtain⟨n1,n2⟩:=hn;obtain⟨w1,w2⟩:=hw;obtain⟨a1,a2⟩:=ha;by_cases g0:n<0
 ·have d0:decide (n<0)=true:=by simpa using g0
  have HX:=Hd (a9j (n:=n) (wide:=wide) (apart:=apart) (by omega))
  go_enter func122,ntmps122
  go_wp2;go_ret;exact⟨by rw[HX.out];rfl,rfl⟩
 have d0:decide (n<0)=false:=by simpa using g0
 by_cases g1:wide<1
 ·have d1:decide (wide<1)=true:=by simpa using g1
  have HX:=Hd (a9j (n:=n) (wide:=wide) (apart:=apart) (by omega))
  go_enter func122,ntmps122
  go_wp2;go_ret;exact⟨by rw[HX.out];rfl,rfl⟩
 have d1:decide (wide<1)=false:=by simpa using g1
 by_cases g2:apart<1
 ·have d2:decide (apart<1)=true:=by simpa using g2
  have HX:=Hd (a9j (n:=n) (wide:=wide) (apart:=apart) (by omega))
  go_enter func122,ntmps122
  go_wp2;go_ret;exact⟨by rw[HX.out];rfl,rfl⟩
 have d2:decide (apart<1)=false:=by simpa using g2
 by_cases g3:n<wide
 ·have d3:decide (n<wide)=true:=by simpa using g3
  have HX:=Hd (a9j (n:=n) (wide:=wide) (apart:=apart) (by omega))
  go_enter func122,ntmps122
  go_wp2;go_ret;exact⟨by rw[HX.out];rfl,rfl⟩
 have d3:decide (n<wide)=false:=by simpa using g3
 have HX:=Hd (b6r (n:=n) (wide:=wide) (apart:=apart) (by omega));have hwA:IntKind.i64.wrap (n-wide)=n-wide:=IntWalk.i64_in _ ⟨by omega,by omega⟩;have hq0:=Int.ediv_nonneg (a:=n-wide) (b:=apart) (by omega) (by omega);have hq1:=Int.ediv_le_self (a:=n-wide) apart (by omega);have htd:(n-wide).tdiv apart=(n-wide) / apart:=Int.tdiv_eq_ediv_of_nonneg (by omega);obtain⟨q,hq⟩:∃ q,(n-wide) / apart=q:=⟨_,rfl⟩;rw[hq] at htd hq0 hq1 HX;have hwB:IntKind.i64.wrap q=q:=IntWalk.i64_in _ ⟨by omega,by omega⟩;have hwC:IntKind.i64.wrap (q+1)=q+1:=IntWalk.i64_in _ ⟨by omega,by omega⟩;have hne:¬ apart=0:=by omega
 clear hq
 go_enter func122,ntmps122
 go_wp2;go_ret;exact⟨by rw[HX.out];rfl,rfl⟩
theorem c0q {v:Value}(how ax wide apart:Int)(h:Ten w v s d):
  Calls prog 89 #[.int .i64 how,v,.int .i64 ax,.int .i64 wide,.int .i64 apart] w fun e w'=>(∃ u,e=.returned (.tuple #[u,.int .i64 (winR how s d ax wide apart).1])∧OTen w' w.heap.size u (winR how s d ax wide apart).2.1 (winR how s d ax wide apart).2.2)∧Below w.heap.size w w':=by
 by_cases hk:(a5g how&&b4a wide apart)=true
 ·have hk2:=hk;rw[Bool.and_eq_true,b4b] at hk2;obtain⟨hh,hw1,hw2,ha1,ha2⟩:=hk2;have HK:=Hd hk;have HH:=Hd hh;clear hk hh;obtain⟨A,n,c,B,m,e,rfl,hnc,hme,hI,hJ⟩:=h;have h1:=((((Sep.nil w).old hJ).old hI).allocBox w.heap.size 89 [.slice A n c,.slice B m e] rfl).allocBox (w.heap.size+1) 89 [.slice none 0 0,.slice none 0 0] (by simp);have hsl:=hI.len;have hnle:=hI.le;have hmle:=hJ.le;have HFD:=Hd hJ.fit;have HDL:=Hd hJ.len
  go_enter func89,ntmps89
  go_upto_region 1 with fail
  generalize (w.alloc (.cells #[.slice A n c,.slice B m e] 89)).alloc (.cells #[.slice none 0 0,.slice none 0 0] 89)=W at *;have H:=Hd h1;clear h1 hI hJ;have HSL:=Hd hsl;clear hsl;have hT:=a3z (H.oldInts 2 rfl) hnc (H.oldInts 3 rfl) hme;have C1:=a2c hT;have HT:=Hd hT;clear hT;obtain⟨t0,t1⟩:=H.z2 1 rfl;have CH:=a9f how W;have db1:decide (wide<1)=false:=by simp;omega
  have db2:decide (32<wide)=false:=by simp;omega
  have db3:decide (apart<1)=false:=by simp;omega
  have db4:decide (32<apart)=false:=by simp;omega
  rw[HH.out] at CH
  go_wp2_with fail
  refine CH.mono ?_;rintro e0 w0 ⟨rfl,rfl⟩;clear CH
  go_wp2_with fail
  cases hr:a0b s d with
  | false =>
   rw[hr] at C1;refine C1.mono ?_;rintro e2 w2 ⟨rfl,hb2⟩;replace H:=Hd (H.below hb2);have HX:=Hd (d4p (ax:=ax) HK hr);obtain⟨r0,r1,fr0,fr1⟩:=H.b2 0;clear hb2 hr C1 t0 t1;go_wp2;rw[HX.out]
   exact sN2 H 0 13 results89
  | true =>
   rw[hr] at C1;refine C1.mono ?_;rintro e2 w2 ⟨rfl,hb2⟩;replace H:=Hd (H.below hb2);have HRT:=Hd hr;clear hb2 hr C1 t0 t1 HT;have hn4:n≤4:=by have:=(a3c HRT).1;have:=HSL.out;omega
   by_cases hx0:ax<0
   ·have db5:decide (ax<0)=true:=by simpa using hx0
    have HX:=Hd (c4l (wide:=wide) (apart:=apart) (ax:=ax) HK HRT (by cases hc:b5e s ax with|false=>rfl|true=>rw[b0u,HSL.out] at hc;omega));obtain⟨t0,t1⟩:=H.z2 1 rfl;obtain⟨r0,r1,fr0,fr1⟩:=H.b2 0;go_wp2;rw[HX.out];exact sN2 H 0 1 results89
   have db5:decide (ax<0)=false:=by simpa using hx0
   by_cases hx1:(n:Int)≤ax
   ·have db6:decide ((n:Int)≤ax)=true:=by simpa using hx1
    have HX:=Hd (c4l (wide:=wide) (apart:=apart) (ax:=ax) HK HRT (by cases hc:b5e s ax with|false=>rfl|true=>rw[b0u,HSL.out] at hc;omega));obtain⟨t0,t1⟩:=H.z2 1 rfl;obtain⟨r0,r1,fr0,fr1⟩:=H.b2 0;go_wp2;rw[HX.out];exact sN2 H 0 1 results89
   have db6:decide ((n:Int)≤ax)=false:=by simpa using hx1
   obtain⟨xx,rfl⟩:=eZ (by omega:0≤ax);have hxn:xx<n:=by omega
   have HXS:=Hd (show xx<s.length by rw[HSL.out];exact hxn);have db7:decide (n≤xx)=false:=by simp;omega
   clear hx0 hx1;have G0:=Hd (H.empty 3);obtain⟨a0,a1⟩:=G0.z2 2 rfl;obtain⟨t0,t1⟩:=H.z2 1 rfl
   go_wp2_with (at_builtin;refine a0g rfl (.tmp 52) (.tmp 54) 25 3 rfl underlying25 Tryz.infoInt G0.out 0 rfl rfl A n c s rfl (G0.out.oldInts 3 rfl) ?c1 ?_)
   case c1=>omega
   intro v1 w1 h1;clear t0 t1 a0 a1 G0;obtain⟨Az,cz,hv,_,_,_⟩:=(h1.ownS 0 rfl).form;subst hv;replace H:=Hd h1;clear h1;obtain⟨sa,dx,hsA,_,hdx,_,hfdx⟩:=(H.oldInts 3 rfl).at_ (k:=xx) hxn;clear hsA;have hdb:=(Sh.right_iff.1 (a3o HRT)).2.1 dx (mG hdx);have HGD:=Hd (show s.getD xx 0=dx by rw[gD,hdx];rfl);obtain⟨gz,cb,hv,hO⟩:=(H.ownS 0 rfl).own (by omega);injection hv with hv1 _ hv3
   subst hv1;subst hv3;obtain⟨M,hM⟩:∃ M,winN dx wide apart=M:=⟨_,rfl⟩;have hMb:0≤M∧M≤dx:=by have h1:=c4k (n:=dx) (wide:=wide) (apart:=apart);rw[hM] at h1;exact⟨h1.1,h1.2 hdb.1⟩
   have hcz:=hO.cell hdx;have hfz:=hO.frozen xx;have CW:=b9a dx wide apart hfdx ⟨by omega,by omega⟩ ⟨by omega,by omega⟩ w1;rw[hM] at CW;have h2:=H.store 0 xx (x:=M) ⟨by omega,by omega⟩ rfl;rw[show s.set xx M=winS s xx wide apart by rw[winS,HGD.out,hM]] at h2;have H2:=Hd h2;have HMW:=Hd hM;clear h2 hO hdx hM
   go_wp2_with fail
   refine CW.mono ?_;rintro e3 w3 ⟨rfl,rfl⟩;clear CW
   go_upto_region 9 with fail
   generalize w1.setCell ⟨gz,xx,none⟩ (.int .i64 M)=w2 at *;replace H:=H2;clear hcz hfz;obtain⟨Z,hZ⟩:∃ Z,winS s xx wide apart=Z:=⟨_,rfl⟩;have hS:=H.out;rw[hZ] at hS;have HZ:=Hd hZ;replace H:=Hd hS;clear hS hZ H2
   go_wp2_with fail
   refine(b5u how _).mono ?_;rintro e6 w6 ⟨rfl,rfl⟩
   go_wp2_with fail
   refine(a1t (a9o how) ((H.ownInts 0 rfl).2.2) (by omega) (b1h how)).mono ?_;rintro e4 w4 ⟨⟨u,rfl,hu⟩,hb4⟩;obtain⟨S1,ns,sc,D1,N,dc,rfl,hs1,hd1,hsc,hdc,hNle,h5⟩:=H.addTen hb4 hu;rw[List.length_replicate] at hd1;rw[hd1] at h5;have HN:=Hd hd1;have h6:=h5.allocBox w4.heap.size 89 [.slice S1 ns sc,.slice D1 N dc] rfl;clear hu hb4 h5 hd1 hs1
   go_upto_region 10 with fail
   generalize w4.alloc (.cells #[.slice S1 ns sc,.slice D1 N dc] 89)=w5 at *;generalize w4.heap.size=gt at *;replace H:=Hd h6;clear h6;have HRS:=Hd (a3o HRT);have HRZ:=Hd (show Sh.right Z=true by rw[←HZ.out];exact c2h HRS HXS);obtain⟨tgt,htg⟩:∃ x,winD how s d xx wide apart=x:=⟨_,rfl⟩;have HTG:=Hd (show tgt.length=N by rw[←htg,d0a,HZ.out];exact HN);have HQ:=Hd htg;clear htg;have HAT:=Hd (show ∀ i:Nat,i<N→tgt[i]?=some (winI how s d xx wide apart i wide.toNat) from fun i hi=>by rw[←HQ.out,winD,HZ.out,b3a (by have:=HN.out;omega)]);obtain⟨o0,o1⟩:=H.z2 0 rfl
   go_wp2_with fail
   clear o0 o1
   go_loopw [73] (fun kv wr=>∃ i:Nat,kv=.int .i64 i∧i≤N∧Sep w wr [.box gt 89 [.slice S1 ns sc,.slice D1 N dc],.own 3 (.slice S1 ns sc) ns Z,.own 2 (.slice D1 N dc) N (mix tgt (List.replicate N (a9o how)) i),.own 3 (.slice (some ⟨gz,0,none⟩) n cz) n Z,.box (w.heap.size+1) 89 [.slice none 0 0,.slice none 0 0],.box w.heap.size 89 [.slice A n c,.slice B m e],.ints A n s,.ints B m d]) (fun kv _=>N - (intOf kv).toNat)
   case atStart=>exact⟨0,rfl,by omega,by rw[a4v];exact H⟩
   case round =>
    clear H;obtain⟨i,rfl,hi,hS⟩:=hrel;have H:=Hd hS;clear hS;by_cases hli:i<N
    ·have hiz:(i:Int)<Sh.size Z:=by have:=HN.out;omega
     have hd3:decide (i<N)=true:=by simpa using hli
     obtain⟨w9,rfl⟩:∃ w9:World,w9=wr:=⟨_,rfl⟩;have HWP:=Hd (fun (j:Nat) (hj:(j:Int)<wide)=>c7s (i:=i) (j:=j) (wide:=wide) (apart:=apart) HRS HXS (by rw[HZ.out];exact hiz) hj ha1);obtain⟨r,hr,hr0,hr1,_⟩:=HWP.out 0 (by omega);rw[HZ.out] at hr;rw[HGD.out,HMW.out] at hr1
     go_wp2_with fail
     refine(a3l i ((H.ownInts 3 rfl).2.2) ⟨by omega,by omega⟩).mono ?_;rintro e7 w7 ⟨⟨v7,n7,rfl,hO⟩,hb7⟩;obtain⟨A7,c7,rfl,hc7,_,_⟩:=hO.form;have hp7:n=n7:=by have:=hO.len;have h2:=(a1q hiz).2.1;rw[←HZ.out,b9y] at h2;rw[←HZ.out] at this;have:=HSL.out;omega
     subst hp7;obtain⟨P,hP⟩:∃ P,Sh.placeOf Z i=P:=⟨_,rfl⟩;rw[hP] at hO hr;have HP:=Hd hP;replace H:=Hd (H.addOwn hb7 hO);clear hO hb7 hP;obtain⟨gp,cb,hv,hO⟩:=(H.ownS 0 rfl).own (by omega);injection hv with hv1 _ hv3
     subst hv1;subst hv3;have hcp:=hO.cell hr;clear hO;have HR:=Hd hr;have hra:r*apart≤32*32:=Int.mul_le_mul (by omega) ha2 (by omega) (by omega);have hra0:0≤r*apart:=Int.mul_nonneg hr0 (by omega);obtain⟨Q,hQ⟩:∃ Q,r*apart=Q:=⟨_,rfl⟩;have hwq:IntKind.i64.wrap (r*apart)=Q:=by rw[hQ];exact IntWalk.i64_in _ ⟨by omega,by omega⟩
     rw[hQ] at hra hra0;have HQR:=Hd hQ;clear hQ hr
     go_wp2_with fail
     clear hcp hwq
     go_loopw [17] (fun jv wr=>∃(J:Nat) (y:Int),jv=.int .i64 J∧J≤wide.toNat∧Sep w wr [.own 3 (.slice (some ⟨gp,0,none⟩) n c7) n (P.set xx y),.box gt 89 [.slice S1 ns sc,.slice D1 N dc],.own 3 (.slice S1 ns sc) ns Z,.own 2 (.slice D1 N dc) N ((mix tgt (List.replicate N (a9o how)) i).set i (winI how s d xx wide apart i J)),.own 3 (.slice (some ⟨gz,0,none⟩) n cz) n Z,.box (w.heap.size+1) 89 [.slice none 0 0,.slice none 0 0],.box w.heap.size 89 [.slice A n c,.slice B m e],.ints A n s,.ints B m d]) (fun jv _=>wide.toNat-(intOf jv).toNat)
     case atStart=>exact⟨0,r,rfl,by omega,by rw[show winI how s d xx wide apart i 0=a9o how from rfl,b9o (a8e HTG.out hli),b9o HR.out];exact H⟩
     case round =>
      clear H;obtain⟨J,y,rfl,hJ,hS⟩:=hrel;have H:=Hd hS;clear hS;by_cases hlj:(J:Int)<wide
      ·have hd4:decide ((J:Int)<wide)=true:=by simpa using hlj
       obtain⟨r2,hr2,_,_,hx1,hx2,_⟩:=HWP.out J hlj;rw[HZ.out,HP.out,HR.out] at hr2;injection hr2 with hr2
       subst hr2;rw[HZ.out,HP.out,HQR.out] at hx1 hx2;have hst:=d9r (how:=how) (d:=d) HRS HXS (by rw[HZ.out];exact hiz) hlj ha1 (r:=r) (by rw[HZ.out,HP.out];exact HR);rw[HZ.out,HP.out,HQR.out] at hst;obtain⟨zz,hzz⟩:∃ z,Q+(J:Int)=z:=⟨_,rfl⟩;have hwz:IntKind.i64.wrap (Q+(J:Int))=zz:=by rw[hzz];exact IntWalk.i64_in _ ⟨by omega,by omega⟩
       have hzb:0≤zz∧zz≤4096:=by omega
       rw[hzz] at hx1 hx2 hst;clear hzz;obtain⟨yz,hyz⟩:=a0h (l:=P.set xx y) (k:=xx) (by have:=(H.ownInts 0 rfl).2.2.len;omega);have hcp:=(H.own 0 rfl).cell hyz;have hfp:=(H.own 0 rfl).frozen xx;have h9:=H.store 0 xx (x:=zz) ⟨by omega,by omega⟩ rfl;rw[List.set_set] at h9;have H9:=Hd h9;clear h9 hyz
       go_upto_region 19 with fail
       generalize wr.setCell ⟨gp,xx,none⟩ (.int .i64 zz)=wz at *;replace H:=H9;clear H9 hcp hfp hwz;obtain⟨X,hX⟩:∃ X,P.set xx zz=X:=⟨_,rfl⟩;have hS:=H.out;rw[hX] at hx1 hx2 hst hS;replace H:=Hd hS;have HX:=Hd hX;clear hS hX;obtain⟨gb,cb,hv,hO⟩:=(H.ownS 3 rfl).own (by omega);injection hv with hv1 _ hv3
       subst hv1;subst hv3;clear hO;obtain⟨u,hu⟩:∃ u,num s d X=u:=⟨_,rfl⟩;obtain⟨V,hV⟩:∃ V,winI how s d xx wide apart i J=V:=⟨_,rfl⟩;have hfV:Fits V:=by rw[←hV];exact c7r HFD _ _ _ _ _ _
       have hfu:Fits u:=by rw[←hu];exact b6l HFD
       rw[hu,hV] at hst;have hS:=H.out;rw[hV] at hS;replace H:=Hd hS;clear hS hV;have HST:=Hd (show((mix tgt (List.replicate N (a9o how)) i).set i V).set i (putF how V u)=(mix tgt (List.replicate N (a9o how)) i).set i (winI how s d xx wide apart i (J+1)) by rw[List.set_set,hst]);have HZV:=Hd (show((mix tgt (List.replicate N (a9o how)) i).set i V)[i]?=some V by rw[List.getElem?_set_self (by rw[c1l (by rw[HTG.out,List.length_replicate]),List.length_replicate];exact hli)]);have HFP:=Hd (b3l how hfV hfu);have H0:=Hd H.drew;have CX:=a2l (c:=c7) (a3z (H0.oldInts 7 rfl) hnc (H0.oldInts 8 rfl) hme) (H0.ownInts 0 rfl).2.2 HRT hx1 hx2;rw[hu] at CX;clear hst hu hx1 hx2 hfV hfu;have ci0:=H0.c 1 1;obtain⟨ci1,ci2⟩:=H0.z2 6 rfl;refine wp_region_held_drew (S:=(fun w'=>w'.cell? ⟨gt,1,none⟩=some (.slice (some ⟨gb,0,none⟩) N dc)∧w'.cell? ⟨w.heap.size,0,none⟩=some (.slice A n c)∧w'.cell? ⟨w.heap.size,1,none⟩=some (.slice B m e))) (by kernel_rfl) ?_ (fun hq_=>?_)
       ·exact⟨ci0,ci1,ci2⟩
       refine zV 0 hq_ ?_;refine zV 1 hq_ ?_;refine zV 2 hq_ ?_;refine zV 3 hq_ ?_;refine zV 4 hq_ ?_;refine zV 5 hq_ ?_;refine zV 6 hq_ ?_;refine zV 7 hq_ ?_;refine zV 9 hq_ ?_;refine zV 10 hq_ ?_;refine rB2 8 11 (fun K hK=>?_) fun K hK=>?_
       ·(have hcz:=(H0.own 3 rfl).cell HZV)
        go_simp;(try go_wp2_with fail);refine zX hK fun hq_=>?_;refine e1 11 fun K hK=>?_
        first|(refine effU ?_ ?_;(focus rfl))|(go_simp;(go_at_call 114;refine CX.mono ?_;rintro e6 x1 ⟨rfl,hb1⟩;have H1:=Hd (H0.below hb1);have cm0:=H1.c 1 1;obtain⟨cm1,cm2⟩:=H1.z2 6 rfl;clear hb1);go_wp2_with fail)
        refine zX hK (fun hq_=>?_) ⟨cm0,cm1,cm2⟩;refine e1 12 fun K hK=>?_
        first|(refine effU ?_ ?_;(focus rfl))|(go_simp;(go_at_call 121;refine(b2o how V u _).mono ?_;rintro e8 x2 ⟨rfl,rfl⟩);go_wp2_with fail)
        refine zX hK (fun hq_=>?_) ⟨cm0,cm1,cm2⟩;refine zV 13 hq_ ?_;refine e1 14 fun K hK=>?_;(have hcs:=(H1.own 3 rfl).cell HZV;have hfs:=(H1.own 3 rfl).frozen i;have h9:=H1.store 3 i (x:=putF how V u) HFP rfl;rw[HST.out] at h9;have HS9:=Hd h9;clear h9;have cg0:=HS9.c 1 1;obtain⟨cg1,cg2⟩:=HS9.z2 6 rfl);go_simp;(try go_wp2_with fail);refine zX hK (fun hq_=>?_) ⟨cg0,cg1,cg2⟩;refine dN ?_;go_wp2;go_roundw
        case rel=>exact⟨J+1,zz,by go_num,by omega,by rw[HX.out];exact HS9⟩
        case measure=>simp[intOf];omega
       ·first|(refine effU ?_ ?_;(focus rfl))|(go_simp;(go_at_call 114;refine CX.mono ?_;rintro e6 x1 ⟨rfl,hb1⟩;have H1:=Hd (H0.below hb1);have cm0:=H1.c 1 1;obtain⟨cm1,cm2⟩:=H1.z2 6 rfl;clear hb1);go_wp2_with fail)
        refine zX hK (fun hq_=>?_) ⟨cm0,cm1,cm2⟩;refine e1 8 fun K hK=>?_;(have hcz:=(H1.own 3 rfl).cell HZV);go_simp;(try go_wp2_with fail);refine zX hK fun hq_=>?_;refine e1 12 fun K hK=>?_
        first|(refine effU ?_ ?_;(focus rfl))|(go_simp;(go_at_call 121;refine(b2o how V u _).mono ?_;rintro e8 x2 ⟨rfl,rfl⟩);go_wp2_with fail)
        refine zX hK (fun hq_=>?_) ⟨cm0,cm1,cm2⟩;refine zV 13 hq_ ?_;refine e1 14 fun K hK=>?_;(have hcs:=(H1.own 3 rfl).cell HZV;have hfs:=(H1.own 3 rfl).frozen i;have h9:=H1.store 3 i (x:=putF how V u) HFP rfl;rw[HST.out] at h9;have HS9:=Hd h9;clear h9;have cg0:=HS9.c 1 1;obtain⟨cg1,cg2⟩:=HS9.z2 6 rfl);go_simp;(try go_wp2_with fail);refine zX hK (fun hq_=>?_) ⟨cg0,cg1,cg2⟩;refine dN ?_;go_wp2;go_roundw
        case rel=>exact⟨J+1,zz,by go_num,by omega,by rw[HX.out];exact HS9⟩
        case measure=>simp[intOf];omega
      ·have hjm:J=wide.toNat:=by omega
       have hd4:decide ((J:Int)<wide)=false:=by simpa using hlj
       have hS:=H.out;rw[hjm,a5n HTG.out (HAT.out i hli)] at hS;replace H:=Hd hS;clear hS hjm;go_wp2;go_roundw
       case rel=>exact⟨i+1,by go_num,by omega,H.sub [1,2,3,4,5,6,7,8] rfl (by decide)⟩
       case measure=>simp[intOf];omega
    ·have hin:N=i:=by omega
     subst hin;have hS:=H.out;rw[a8d HTG.out,←HQ.out] at hS;replace H:=Hd hS;clear hS;have HQ3:=Hd (show winR how s d xx wide apart=(0,Z,winD how s d xx wide apart) by rw[d9s HK.out HRT.out HXS.out,HZ.out]);obtain⟨o0,o1⟩:=H.z2 0 rfl;obtain⟨r0,r1,fr0,fr1⟩:=H.b2 4;go_wp2;rw[HQ3.out];exact sY2 ((H.setBox 4 0 (.slice S1 ns sc) rfl).setBox 4 1 (.slice D1 N dc) rfl) 4 1 2 (.int .i64 0) results89
 ·have hkf:(a5g how&&b4a wide apart)=false:=by simpa using hk
  have HX:=Hd (d2a (s:=s) (d:=d) (ax:=ax) hkf);obtain⟨A,n,c,B,m,e,rfl,hnc,hme,hI,hJ⟩:=h;have h1:=((Sep.nil w).allocBox w.heap.size 89 [.slice A n c,.slice B m e] rfl).allocBox (w.heap.size+1) 89 [.slice none 0 0,.slice none 0 0] (by simp);have C1:=a9f how ((w.alloc (.cells #[.slice A n c,.slice B m e] 89)).alloc (.cells #[.slice none 0 0,.slice none 0 0] 89))
  cases hh:a5g how with
  | false =>
   rw[hh] at C1
   go_enter func89,ntmps89
   go_upto_region 1 with fail
   generalize (w.alloc (.cells #[.slice A n c,.slice B m e] 89)).alloc (.cells #[.slice none 0 0,.slice none 0 0] 89)=W at *;have H:=Hd h1;clear h1 hh hkf hk
   go_wp2_with fail
   refine C1.mono ?_;rintro e1 w1 ⟨rfl,rfl⟩;obtain⟨r0,r1,fr0,fr1⟩:=H.b2 0;clear C1;go_wp2;rw[HX.out]
   exact sN2 H 0 1 results89
  | true =>
   rw[hh] at C1;have hwk:¬(1≤wide∧wide≤32∧1≤apart∧apart≤32):=fun hc=>by rw[hh,b4b.2 hc] at hkf;cases hkf
   clear hh hkf hk;by_cases g0:wide<1
   ·have dg0:decide (wide<1)=true:=by simpa using g0
    go_enter func89,ntmps89
    go_upto_region 1 with fail
    generalize (w.alloc (.cells #[.slice A n c,.slice B m e] 89)).alloc (.cells #[.slice none 0 0,.slice none 0 0] 89)=W at *;have H:=Hd h1;clear h1 hwk
    go_wp2_with fail
    refine C1.mono ?_;rintro e1 w1 ⟨rfl,rfl⟩;obtain⟨r0,r1,fr0,fr1⟩:=H.b2 0;clear C1;go_wp2;rw[HX.out];exact sN2 H 0 1 results89
   have dg0:decide (wide<1)=false:=by simpa using g0
   by_cases g1:32<wide
   ·have dg1:decide (32<wide)=true:=by simpa using g1
    go_enter func89,ntmps89
    go_upto_region 1 with fail
    generalize (w.alloc (.cells #[.slice A n c,.slice B m e] 89)).alloc (.cells #[.slice none 0 0,.slice none 0 0] 89)=W at *;have H:=Hd h1;clear h1 hwk
    go_wp2_with fail
    refine C1.mono ?_;rintro e1 w1 ⟨rfl,rfl⟩;obtain⟨r0,r1,fr0,fr1⟩:=H.b2 0;clear C1;go_wp2;rw[HX.out];exact sN2 H 0 1 results89
   have dg1:decide (32<wide)=false:=by simpa using g1
   by_cases g2:apart<1
   ·have dg2:decide (apart<1)=true:=by simpa using g2
    go_enter func89,ntmps89
    go_upto_region 1 with fail
    generalize (w.alloc (.cells #[.slice A n c,.slice B m e] 89)).alloc (.cells #[.slice none 0 0,.slice none 0 0] 89)=W at *;have H:=Hd h1;clear h1 hwk
    go_wp2_with fail
    refine C1.mono ?_;rintro e1 w1 ⟨rfl,rfl⟩;obtain⟨r0,r1,fr0,fr1⟩:=H.b2 0;clear C1;go_wp2;rw[HX.out];exact sN2 H 0 1 results89
   have dg2:decide (apart<1)=false:=by simpa using g2
   by_cases g3:32<apart
   ·have dg3:decide (32<apart)=true:=by simpa using g3
    go_enter func89,ntmps89
    go_upto_region 1 with fail
    generalize (w.alloc (.cells #[.slice A n c,.slice B m e] 89)).alloc (.cells #[.slice none 0 0,.slice none 0 0] 89)=W at *;have H:=Hd h1;clear h1 hwk
    go_wp2_with fail
    refine C1.mono ?_;rintro e1 w1 ⟨rfl,rfl⟩;obtain⟨r0,r1,fr0,fr1⟩:=H.b2 0;clear C1;go_wp2;rw[HX.out];exact sN2 H 0 1 results89
   have dg3:decide (32<apart)=false:=by simpa using g3
   exact absurd ⟨by omega,by omega,by omega,by omega⟩ hwk
noncomputable def a0w (nd:a0l) (L:TL):Int × List Int × List Int :=
 if nd.op=2 then(if Sh.right nd.shape then(0,nd.shape,List.replicate (Sh.size nd.shape).toNat nd.n) else refused 13)
 else if nd.op=3 then(if Sh.right nd.shape then(if nd.a.length=1∧0≤nd.a.getD 0 0∧nd.a.getD 0 0<nd.shape.length then(0,nd.shape,Sh.iota nd.shape (nd.a.getD 0 0).toNat) else refused 1) else refused 13)
 else if nd.op=4∨nd.op=5 then oneR nd.op (L.getD 0 ([],[])).1 (L.getD 0 ([],[])).2
 else if nd.op=12 then b4u (L.getD 0 ([],[])).1 (L.getD 0 ([],[])).2 (L.getD 1 ([],[])).1 (L.getD 1 ([],[])).2 (L.getD 2 ([],[])).1 (L.getD 2 ([],[])).2
 else if nd.op=13 then b3y (L.getD 0 ([],[])).1 (L.getD 0 ([],[])).2 nd.a
 else if nd.op=14 then spR (L.getD 0 ([],[])).1 (L.getD 0 ([],[])).2 nd.shape nd.a
 else if nd.op=15 then(if nd.a.length=2*(L.getD 0 ([],[])).1.length then cutR (L.getD 0 ([],[])).1 (L.getD 0 ([],[])).2 (nd.a.take (L.getD 0 ([],[])).1.length) (nd.a.drop (L.getD 0 ([],[])).1.length) else refused 1)
 else if nd.op=16 then(if nd.a.length=2*(L.getD 0 ([],[])).1.length then padR (L.getD 0 ([],[])).1 (L.getD 0 ([],[])).2 (nd.a.take (L.getD 0 ([],[])).1.length) (nd.a.drop (L.getD 0 ([],[])).1.length) nd.n else refused 1)
 else if nd.op=17 then(if nd.a.length=1 then a9t (nd.a.getD 0 0) L else refused 1)
 else if nd.op=18 then a8w nd.how (L.getD 0 ([],[])).1 (L.getD 0 ([],[])).2 nd.a
 else if nd.op=19 then(if nd.a.length=1 then dotR (L.getD 0 ([],[])).1 (L.getD 0 ([],[])).2 (L.getD 1 ([],[])).1 (L.getD 1 ([],[])).2 (nd.a.getD 0 0) else refused 1)
 else if nd.op=20 then(if nd.a.length=3 then winR nd.how (L.getD 0 ([],[])).1 (L.getD 0 ([],[])).2 (nd.a.getD 0 0) (nd.a.getD 1 0) (nd.a.getD 2 0) else refused 1)
 else twoR nd.op (L.getD 0 ([],[])).1 (L.getD 0 ([],[])).2 (L.getD 1 ([],[])).1 (L.getD 1 ([],[])).2
def d9v (w:World) (r:Int × List Int × List Int) (e:Ending) (w' : World):Prop :=
 (∃ u,e=.returned (.tuple #[u,.int .i64 r.1])∧OTen w' w.heap.size u r.2.1 r.2.2)∧Below w.heap.size w w'
theorem d9c {S D:Option Addr}{sn sc dn dc:Nat}(h:Ten w (.agg #[.slice S sn sc,.slice D dn dc]) s d):s.length=sn∧sn≤sc:=by
 obtain⟨A,n,c,B,m,e,hv,hc,_,hI,_⟩:=h;simp only[Value.agg.injEq] at hv;have h1:=congrArg (fun a:Array Value=>a.toList) hv;simp only[List.cons.injEq,Value.slice.injEq] at h1;obtain⟨⟨_,h2,h3⟩,_⟩:=h1;exact⟨hI.len.trans h2.symm,by omega⟩
theorem Tens.at1 (h:Tens w A n (x::y::l))(ha:A=some a):∃ S sn sc D dn dc,w.cell? ⟨a.block,a.off+2,none⟩=some (.slice S sn sc)∧w.cell? ⟨a.block,a.off+2+1,none⟩=some (.slice D dn dc)∧Ten w (.agg #[.slice S sn sc,.slice D dn dc]) y.1 y.2:=by
 subst ha;obtain⟨a', S,sn,sc,D,dn,dc,e,hb,h0,h1,ht⟩:=h.2.2 1 y rfl;injection e with e
 subst e;exact⟨S,sn,sc,D,dn,dc,by simpa [Addr.add] using h0,by simpa [Addr.add] using h1,ht⟩
theorem Tens.at2 {z:List Int × List Int}(h:Tens w A n (x::y::z::l))(ha:A=some a):∃ S sn sc D dn dc,w.cell? ⟨a.block,a.off+4,none⟩=some (.slice S sn sc)∧w.cell? ⟨a.block,a.off+4+1,none⟩=some (.slice D dn dc)∧Ten w (.agg #[.slice S sn sc,.slice D dn dc]) z.1 z.2:=by
 subst ha;obtain⟨a', S,sn,sc,D,dn,dc,e,hb,h0,h1,ht⟩:=h.2.2 2 z rfl;injection e with e
 subst e;exact⟨S,sn,sc,D,dn,dc,by simpa [Addr.add] using h0,by simpa [Addr.add] using h1,ht⟩
theorem a7i (h:Ints w1 A n xs)(hk:k≤n)(hc:n≤c):∀ w,(Instr.slice 25 (.slice A n c) none (some (.int .i64 (k:Int))) none).run prog w=.ok (.slice A k c) w:=by
 intro w;have hu:prog.underlying 25=some (.slice 3):=by kernel_rfl
 have hkc:k≤c:=by omega
 cases A with
 | none =>
  have h0:n=0:=by
   rcases Nat.eq_zero_or_pos n with e|e
   ·exact e
   ·obtain⟨a,e', _⟩:=h.2.2.2 e;cases e'
  subst h0;obtain rfl:k=0:=by omega
  go_simp
 | some a=>go_simp
theorem b0m (h:Ints w1 A n xs)(hk:k≤n)(hc:n≤c):∀ w,(Instr.slice 25 (.slice A n c) (some (.int .i64 (k:Int))) none none).run prog w=.ok (.slice (dropA A c k) (n-k) (c-k)) w:=by
 intro w;have hu:prog.underlying 25=some (.slice 3):=by kernel_rfl
 cases A with
 | none =>
  have h0:n=0:=by
   rcases Nat.eq_zero_or_pos n with e|e
   ·exact e
   ·obtain⟨a,e', _⟩:=h.2.2.2 e;cases e'
  subst h0;obtain rfl:k=0:=by omega
  by_cases hcl:c=0
  ·subst hcl
   go_simp
   rw[dropA,iP rfl]
  ·go_simp
   rw[dropA,iN hcl];rfl
 | some a =>
  by_cases hcl:c=k
  ·subst hcl
   go_simp
   rw[dropA,iP rfl]
  ·go_simp
   rw[dropA,iN hcl];rfl
theorem Tens.zero_ (h:Tens w A n (x::l)):∃ a S sn sc D dn dc,A=some a∧a.block<w.heap.size∧w.cell? a=some (.slice S sn sc)∧w.cell? ⟨a.block,a.off+1,none⟩=some (.slice D dn dc)∧Ten w (.agg #[.slice S sn sc,.slice D dn dc]) x.1 x.2:=by
 obtain⟨a,S,sn,sc,D,dn,dc,e,hb,h0,h1,ht⟩:=h.2.2 0 x rfl;have ez:a.add (0*2)=a:=by cases a;rfl
 rw[ez] at h0 h1;exact⟨a,S,sn,sc,D,dn,dc,e,hb,h0,h1,ht⟩
end Go.Proofs.YtdcmanhgekjhgaaGreatDoor
