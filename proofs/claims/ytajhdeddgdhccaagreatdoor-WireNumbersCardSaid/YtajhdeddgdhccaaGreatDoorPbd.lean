import Derived.Test.YtajhdeddgdhccaaGreatDoorPbc
set_option maxRecDepth 100000
set_option maxHeartbeats 12800000
namespace Go.Proofs.YtajhdeddgdhccaaGreatDoor
open Go.RowKit Go.Proofs.Tryz
variable {w:World}
theorem b0p {t e:TypeId}(ht:prog.underlying t=some (.slice e))(hinfo:(prog.info? e).map (fun i=>(i.zero,i.size,i.bytes))=some (some (.int .i64 0),1,8))
  {n:Nat}(hn:n≤17592186044000)(w:World):
  (Instr.makeSlice t (.int .i64 0) (.int .i64 n)).run prog w=.ok (.slice (some ⟨w.heap.size,0,none⟩) 0 n) (w.alloc (.cells (noughts n) e)):=by
 obtain⟨i,hi,hz0,hz1,hz2⟩:=info_parts hinfo;have:=run_make (P:=prog) w t e i (.int .i64 0) ht hi hz0 .i64 .i64 0 n (by omega) (by omega) (by rw[hz2];omega) (by omega);rw[this,hz1];simp only[Int.toNat_natCast,Nat.mul_one];rw[←a6o];rfl
theorem Sep.room {w0:World}{l:List a0i}(h:Sep w0 w l)(e:TypeId)(n:Nat)(hn:n≤17592186044000):Sep w0 (w.alloc (.cells (Go.Proofs.YtajhdeddgdhccaaGreatDoor.noughts n) e)) (.own e (.slice (some ⟨w.heap.size,0,none⟩) 0 n) 0 []::l) :=
 h.addOwn ((Below.refl _ _).alloc (Nat.le_refl _) _) ⟨⟨rfl,.inr ⟨w.heap.size,n,Go.Proofs.YtajhdeddgdhccaaGreatDoor.noughts n,rfl,Nat.le_refl _,heap_alloc_new _ _,Nat.zero_le _,by unfold maxLen;omega,by simp[Go.Proofs.YtajhdeddgdhccaaGreatDoor.noughts],by simp⟩⟩,by simp,by omega⟩
def wo:Nat→List Int→List Int→List Int × List Int
 | _,[],ax=>([],ax)
 | k,x::l,ax=>if ax[0]?=some (k:Int) then wo (k+1) l (ax.drop 1) else(x::(wo (k+1) l ax).1,(wo (k+1) l ax).2)
def WoAt (l a:List Int) (j:Nat) (acc ax:List Int):Prop:=wo 0 l a=(acc++(wo j (l.drop j) ax).1,(wo j (l.drop j) ax).2)
theorem WoAt.start (l a:List Int):WoAt l a 0 [] a:=by simp[WoAt]
theorem b3e (how:Int)(w:World):
  Calls prog 129 #[.int .i64 how] w fun e w'=>e=.returned (.bool (a4c how))∧w=w':=by
 by_cases h1:1≤how
 ·have d1:decide (1≤how)=true:=by simpa using h1
  go_enter func129,ntmps129
  go_wp2;go_ret;exact⟨a0c (by simp[a4c,h1]),rfl⟩
 ·have d1:decide (1≤how)=false:=by simpa using h1
  have HX:=Hd (show a4c how=false by simp only[a4c,d1,Bool.false_and])
  go_enter func129,ntmps129
  go_wp2;go_ret;exact⟨a0c HX.symm,rfl⟩
theorem c0x {A B:Option Addr}{na ca nb cb:Nat}{a b:List Int}(n:Int)(hA:Ints w A na a)(hB:Ints w B nb b)(ka:na≤ca)(kb:nb≤cb):
  Calls prog 130 #[.slice A na ca,.slice B nb cb,.int .i64 n] w fun e w'=>(∃ v m,e=.returned (.tuple #[v,.int .i64 (dsR a b n).1])∧OwnS w' w.heap.size 3 v m (dsR a b n).2)∧Below w.heap.size w w':=by
 have hla:=hA.len;have hlb:=hB.len;have hlea:=hA.le;have hleb:=hB.le;by_cases h0:n<0
 ·have d0:decide (n<0)=true:=by simpa using h0
  have HX:=Hd (a9h (a:=a) (b:=b) (n:=n) (by omega))
  go_enter func130,ntmps130
  go_wp2;go_ret2;rw[HX.out];exact⟨⟨_,0,rfl,OwnS.nil_ _ _ _⟩,Below.refl _ _⟩
 have d0:decide (n<0)=false:=by simpa using h0
 obtain⟨k,rfl⟩:=eZ (by omega:0≤n);clear h0;by_cases h1:na≤k
 ·have d1:decide (na≤k)=true:=by simpa using h1
  have HX:=Hd (a9h (a:=a) (b:=b) (n:=(k:Int)) (by omega));clear hla hlb
  go_enter func130,ntmps130
  go_wp2;go_ret2;rw[HX.out];exact⟨⟨_,0,rfl,OwnS.nil_ _ _ _⟩,Below.refl _ _⟩
 have d1:decide (na≤k)=false:=by simpa using h1
 by_cases h2:nb≤k
 ·have d2:decide (nb≤k)=true:=by simpa using h2
  have HX:=Hd (a9h (a:=a) (b:=b) (n:=(k:Int)) (by omega));clear hla hlb
  go_enter func130,ntmps130
  go_wp2;go_ret2;rw[HX.out];exact⟨⟨_,0,rfl,OwnS.nil_ _ _ _⟩,Below.refl _ _⟩
 have d2:decide (nb≤k)=false:=by simpa using h2
 have hka:k<na:=by omega
 have hkb:k<nb:=by omega
 clear h1 h2;have HAB:=Hd (show k<a.length∧k<b.length by omega);obtain⟨pa,x,hpA,_,hx,hcx,hfx⟩:=hA.at_ (k:=na-1) (by omega);obtain⟨pb,y,hpB,_,hy,hcy,hfy⟩:=hB.at_ (k:=k) hkb;subst hpA;subst hpB;have HX:=Hd (show a.getD (a.length-1) 0=x by rw[gD,hla,hx];rfl);have HY:=Hd (show b.getD k 0=y by rw[gD,hy];rfl);have HLA:=Hd hla;have HLB:=Hd hlb;have IA:=Hd (hA.take (k:=k) (by omega));have IB:=Hd (hB.take (k:=k) (by omega));have HA:=Hd hA;have HB:=Hd hB;clear hx hy hfx hfy hla hlb hA hB;have hwn:IntKind.i64.wrap ((na:Int)-1)=((na-1:Nat):Int):=by rw[show(na:Int)-1=((na-1:Nat):Int) by omega];exact IntWalk.i64_in _ ⟨by omega,by omega⟩
 have CA:=a5u (c:=ca) HA;have CB:=a5u (c:=cb) HB
 cases RA:Sh.right a with
 | false =>
  rw[RA] at CA;have HX:=Hd (a4g HAB (by rw[a4y,RA];rfl))
  go_enter func130,ntmps130
  go_wp2_with fail
  refine CA.mono ?_;rintro e1 w1 ⟨rfl,rfl⟩;clear CA;go_wp2;go_ret2;rw[HX.out]
  exact⟨⟨_,0,rfl,OwnS.nil_ _ _ _⟩,Below.refl _ _⟩
 | true =>
  rw[RA] at CA
  cases RB:Sh.right b with
  | false =>
   rw[RB] at CB;have HX:=Hd (a4g HAB (by rw[a4y,RA,RB];rfl))
   go_enter func130,ntmps130
   go_wp2_with fail
   refine CA.mono ?_;rintro e1 w1 ⟨rfl,rfl⟩;clear CA
   go_wp2_with fail
   refine CB.mono ?_;rintro e2 w2 ⟨rfl,rfl⟩;clear CB;go_wp2;go_ret2;rw[HX.out]
   exact⟨⟨_,0,rfl,OwnS.nil_ _ _ _⟩,Below.refl _ _⟩
  | true =>
   rw[RB] at CB
   cases RP:(a.take k==b.take k) with
   | false =>
    have C3:=fun q=>b0r (c:=ca) (d:=cb) (IA.drewN q) (IB.drewN q)
    simp only[RP] at C3;replace C3:=Hd C3;have HX:=Hd (a4g HAB (by rw[a4y,RA,RB,show decide (a.take k=b.take k)=false from decide_eq_false (by simpa using RP)];rfl))
    go_enter func130,ntmps130
    go_wp2_with fail
    refine CA.mono ?_;rintro e1 w1 ⟨rfl,rfl⟩;clear CA
    go_wp2_with fail
    refine CB.mono ?_;rintro e2 w2 ⟨rfl,rfl⟩;clear CB
    go_upto_region 6 with fail
    go_quiet (first|(go_at_call 128;with_reducible exact a2u (C3.out _)))
    go_wp2;go_ret2;rw[HX.out]
    exact⟨⟨_,0,rfl,OwnS.nil_ _ _ _⟩,(Sep.nil w).drewN _ |>.base⟩
   | true =>
    have C3:=fun q=>b0r (c:=ca) (d:=cb) (IA.drewN q) (IB.drewN q)
    simp only[RP] at C3;replace C3:=Hd C3;by_cases hxy:x=y
    ·subst hxy;have HFT:=Hd (show a4y a b k=true from a8i.2 ⟨RA,RB,by simpa using RP,HX.trans HY.symm⟩);have dxx:(x != x)=false:=by simp
     have hna4:na≤4:=by have:=(Sh.right_iff.1 RA).1;have:=HLA.out;omega
     have hnb4:nb≤4:=by have:=(Sh.right_iff.1 RB).1;have:=HLB.out;omega
     go_enter func130,ntmps130
     go_wp2_with fail
     refine CA.mono ?_;rintro e1 w1 ⟨rfl,rfl⟩;clear CA
     go_wp2_with fail
     refine CB.mono ?_;rintro e2 w2 ⟨rfl,rfl⟩;clear CB
     go_upto_region 6 with fail
     go_quiet (first|(go_at_call 128;with_reducible exact a2u (C3.out _)))
     go_upto_region 8 with fail
     have H:=Hd ((Sep.nil w).drewN nq);generalize w.drewN nq=w5 at *;clear C3 HY dxx hcx hcy;obtain⟨nz,hnz⟩:∃ nz:Nat,na-1+nb-k-1=nz:=⟨_,rfl⟩;have hs3:((na-1:Nat):Int)+(nb:Int)-(k:Int)-1=(nz:Int):=by omega
     have hnz6:nz≤8:=by omega
     have HNZ:=Hd hnz;clear hnz;have hm:=b0p underlying23 Tryz.infoInt (n:=nz) (by omega);have h1:=H.room 3 nz (by omega)
     go_upto_region 9 with fail
     generalize w5.alloc (.cells (noughts nz) 3)=w6 at *;replace H1:=Hd h1;clear h1 hm hs3 H;obtain⟨A2,hsl,hI2⟩:=b0o ((k:Int)+1) (k:=k+1) (by omega) HB (by omega) (by omega) kb;have HI2:=Hd hI2;clear hI2;have hwk:IntKind.i64.wrap ((k:Int)+1)=(k:Int)+1:=IntWalk.i64_in _ ⟨by omega,by omega⟩;have HI1:=Hd (HA.take (k:=na-1) (by omega));have hca1:na≤ca+1:=by omega
     go_wp2_with (at_builtin;refine a0f rfl (.tmp 62) (.tmp 65) 23 3 rfl underlying23 Tryz.infoInt H1.out 0 rfl rfl _ (na-1) ca _ rfl (H1.out.oldI HI1.out) ?c1 ?_)
     case c1=>omega
     intro v2 w2 h2;have H2:=Hd h2;clear h2
     go_wp2_with (at_builtin;refine a0f rfl (.tmp 67) (.tmp 71) 23 3 rfl underlying23 Tryz.infoInt H2.out 0 rfl rfl _ (nb-(k+1)) (cb-(k+1)) _ rfl (H2.out.oldI HI2.out) ?c1 ?_)
     case c1=>omega
     intro v3 w3 h3;have H3:=Hd h3;clear h3;have HL:=Hd (show a.take (na-1)++b.drop (k+1)=dotS a b k by rw[dotS,HLA.out]);have hS3:=H3.out;rw[HL.out] at hS3;obtain⟨nu,hnu⟩:∃ nu,na-1+(nb-(k+1))=nu:=⟨_,rfl⟩;rw[hnu] at hS3;obtain⟨Z,hZ⟩:∃ Z,dotS a b k=Z:=⟨_,rfl⟩;rw[hZ] at hS3;replace H3:=Hd hS3;clear hS3;obtain⟨A5,c5,hv,_,_,_⟩:=(H3.ownS 0 rfl).form;subst hv;have C5:=a5u (c:=c5) ((H3.ownInts 0 rfl).2.2);clear hsl H1 H2 hwk hnu
     cases ho:Sh.right Z with
     | false =>
      rw[ho] at C5
      go_wp2_with fail
      refine C5.mono ?_;rintro e5 w5 ⟨rfl,rfl⟩;have HX:=Hd (b1a HAB HFT (by rw[hZ];exact ho));clear C5 ho hZ;go_wp2;go_ret2;rw[HX.out]
      exact⟨⟨_,0,rfl,OwnS.nil_ _ _ _⟩,H3.base⟩
     | true =>
      rw[ho] at C5
      go_wp2_with fail
      refine C5.mono ?_;rintro e5 w5 ⟨rfl,rfl⟩;have HX:=Hd (c2u HAB HFT (by rw[hZ];exact ho));rw[hZ] at HX;clear C5 ho hZ;go_wp2;go_ret2;rw[HX.out];exact⟨⟨_,_,rfl,H3.ownS 0 rfl⟩,H3.base⟩
    ·have dxy:(x != y)=true:=by simpa using hxy
     have HNE:=Hd hxy;clear hxy;have HX:=Hd (a4g HAB (by rw[a4y,HX.out,HY.out,show decide (x=y)=false from decide_eq_false HNE.out];simp))
     go_enter func130,ntmps130
     go_wp2_with fail
     refine CA.mono ?_;rintro e1 w1 ⟨rfl,rfl⟩;clear CA
     go_wp2_with fail
     refine CB.mono ?_;rintro e2 w2 ⟨rfl,rfl⟩;clear CB
     go_upto_region 6 with fail
     go_quiet (first|(go_at_call 128;with_reducible exact a2u (C3.out _)))
     go_wp2;go_ret2;rw[HX.out];exact⟨⟨_,0,rfl,OwnS.nil_ _ _ _⟩,(Sep.nil w).drewN _ |>.base⟩
namespace Sh
end Sh
def Near (f:List Int):Prop:=∀ x∈f,0≤x∧x≤32
theorem b3d:∀ {s f z:List Int},a3j s f z=true→(∀ x∈s,0≤x∧x≤32)→0≤Sh.pd z∧Sh.pd z≤Sh.pd s∧(∀ x∈z,0≤x∧x≤32)∧(∀ x∈f,0≤x∧x≤32)
 | [],[],[],_,_=>by simp[Sh.pd]
 | n::s,x::f,y::z,h,hd=>by
  simp only[a3j,Bool.and_eq_true,decide_eq_true_eq] at h;obtain⟨h1,h2,h3,h4⟩:=b3d h.2 fun x hx=>hd x (by simp[hx])
  have hn:=hd n (by simp);refine⟨?_,?_,?_,?_⟩
  ·rw[Sh.pd];exact Int.mul_nonneg (by omega) h1
  ·rw[Sh.pd,Sh.pd];exact Int.mul_le_mul (by omega) h2 h1 (by omega)
  ·intro u hu;rcases List.mem_cons.1 hu with rfl|hu
   ·omega
   ·exact h3 u hu
  ·intro u hu;rcases List.mem_cons.1 hu with rfl|hu
   ·omega
   ·exact h4 u hu
 | [],_::_,_,h,_=>by simp[a3j] at h
 | [],[],_::_,h,_=>by simp[a3j] at h
 | _::_,[],_,h,_=>by simp[a3j] at h
 | _::_,_::_,[],h,_=>by simp[a3j] at h
theorem d0e {s f z:List Int}(hr:Sh.right s=true)(h:a3j s f z=true):Sh.right z=true∧Near f:=by
 have hs:=Sh.right_iff.1 hr;obtain⟨h1,h2,h3,h4⟩:=b3d h hs.2.1;refine⟨Sh.right_iff.2 ⟨by rw[(a9u h).2];exact hs.1,h3,?_⟩,h4⟩;have:=hs.2.2;rw[Sh.pr_pd] at this ⊢;omega
end Go.Proofs.YtajhdeddgdhccaaGreatDoor
namespace Go.Proofs.YtajhdeddgdhccaaGreatDoor
open Go.RowKit Go.Proofs.Tryz
variable {A B:Option Addr} {L:List (List Int)} {a o s:List Int} {c d m n:Nat} {w:World} {y:Int}
theorem c9x (n wide apart:Int)(hn:Fits n)(hw:Fits wide)(ha:Fits apart)(w:World):
  Calls prog 131 #[.int .i64 n,.int .i64 wide,.int .i64 apart] w fun e w'=>e=.returned (.int .i64 (winN n wide apart))∧w=w':=by
 obtain⟨n1,n2⟩:=hn;obtain⟨w1,w2⟩:=hw;obtain⟨a1,a2⟩:=ha;by_cases g0:wide<1
 ·have d0:decide (wide<1)=true:=by simpa using g0
  have HX:=Hd (a7h (n:=n) (wide:=wide) (apart:=apart) (by omega))
  go_enter func131,ntmps131
  go_wp2;go_ret;exact⟨by rw[HX.out];rfl,rfl⟩
 have d0:decide (wide<1)=false:=by simpa using g0
 by_cases g1:apart<1
 ·have d1:decide (apart<1)=true:=by simpa using g1
  have HX:=Hd (a7h (n:=n) (wide:=wide) (apart:=apart) (by omega))
  go_enter func131,ntmps131
  go_wp2;go_ret;exact⟨by rw[HX.out];rfl,rfl⟩
 have d1:decide (apart<1)=false:=by simpa using g1
 by_cases g2:n<wide
 ·have d2:decide (n<wide)=true:=by simpa using g2
  have HX:=Hd (a7h (n:=n) (wide:=wide) (apart:=apart) (by omega))
  go_enter func131,ntmps131
  go_wp2;go_ret;exact⟨by rw[HX.out];rfl,rfl⟩
 have d2:decide (n<wide)=false:=by simpa using g2
 have HX:=Hd (b2w (n:=n) (wide:=wide) (apart:=apart) (by omega));have hwA:IntKind.i64.wrap (n-wide)=n-wide:=IntWalk.i64_in _ ⟨by omega,by omega⟩;have hq0:=Int.ediv_nonneg (a:=n-wide) (b:=apart) (by omega) (by omega);have hq1:=Int.ediv_le_self (a:=n-wide) apart (by omega);have htd:(n-wide).tdiv apart=(n-wide) / apart:=Int.tdiv_eq_ediv_of_nonneg (by omega);obtain⟨q,hq⟩:∃ q,(n-wide) / apart=q:=⟨_,rfl⟩;rw[hq] at htd hq0 hq1 HX;have hwB:IntKind.i64.wrap q=q:=IntWalk.i64_in _ ⟨by omega,by omega⟩;have hwC:IntKind.i64.wrap (q+1)=q+1:=IntWalk.i64_in _ ⟨by omega,by omega⟩;have hne:¬ apart=0:=by omega
 clear hq
 go_enter func131,ntmps131
 go_wp2;go_ret;exact⟨by rw[HX.out];rfl,rfl⟩
theorem c7e (h:a[0]?=some y):a.getD 0 0=y:=by rw[gD,h];rfl
theorem c7f {k:Nat}(h:a[k]?=some y):a.getD k 0=y:=by rw[gD,h];rfl
theorem c6a (a:Addr):a.add 0=a:=by cases a;rfl
theorem Lils.head (h:Lils w A n (s::L)):∃ a B m c,A=some a∧a.block<w.heap.size∧w.cell? a=some (.slice B m c)∧m≤c∧Ints w B m s:=by
 obtain⟨a,B,m,c,h1,h2,h3,h4,h5⟩:=h.2.2 0 s rfl;exact⟨a,B,m,c,h1,h2,by rwa [c6a] at h3,h4,h5⟩
theorem c4c (a:Addr)(j:Nat):(a.add 1).add j=a.add (j+1):=by rw[b5t,Nat.add_comm]
theorem b6m {w1:World}(hL:Lils w1 A n (s::L))(hc:n≤c):∃ A2:Option Addr,(∀ w,(Instr.slice 44 (.slice A n c) (some (.int .i64 1)) none none).run prog w=.ok (.slice A2 (n-1) (c-1)) w)∧Lils w1 A2 (n-1) L:=by
 have hu:prog.underlying 44=some (.slice 23):=by kernel_rfl
 obtain⟨a,B,m,cs,rfl,_⟩:=hL.head;have hn:L.length+1=n:=hL.1;have hn9:=hL.2.1;by_cases hc1:c=1
 ·subst hc1;have h1:n=1:=by omega
  subst h1;obtain rfl:L=[]:=List.eq_nil_of_length_eq_zero (by omega);refine⟨some a,fun w=>?_,rfl,by omega,fun j x hx=>by simp at hx⟩
  go_simp
 ·refine⟨some (a.add 1),fun w=>?_,by omega,by omega,fun j x hx=>?_⟩
  ·have h1:1≤n:=by omega
   have h2:1≤c:=by omega
   go_simp
   intro h;omega
  ·obtain⟨a', B,m,cs,h1,h2,h3,h4,h5⟩:=hL.2.2 (j+1) x hx;injection h1 with h1;subst h1
   exact⟨a.add 1,B,m,cs,rfl,by rw[a0d];exact h2,by rw[c4c];exact h3,h4,h5⟩
theorem b8y (hS:Ints w A n s)(hA:Ints w B m a):
  Calls prog 107 #[.slice A n c,.slice B m d] w (a2y w (a5z s a)):=by
 have C1:=a5u (c:=c) hS;have HSL:=Hd hS.len;have HAL:=Hd hA.len;have hnle:=hS.le;have hmle:=hA.le
 cases hr:Sh.right s with
 | false =>
  rw[hr] at C1;have HX:=Hd (show a5z s a=(13,[]) by rw[a5z,hr];rfl);clear hr hS hA
  go_enter func107,ntmps107
  go_wp2_with fail
  refine C1.mono ?_;rintro e1 w1 ⟨rfl,rfl⟩;clear C1;go_wp2;go_ret2
  exact a0g HX (Below.refl _ _)
 | true =>
  rw[hr] at C1;have HP:=Hd (show a5z s a=if a.length=1∧0≤a.getD 0 0∧a.getD 0 0<s.length then(0,s) else(1,[]) by rw[a5z,hr,iP rfl]);have hn4:n≤4:=by have:=(Sh.right_iff.1 hr).1;have:=HSL.out;omega
  clear hr;by_cases hm:m=1
  ·subst hm;obtain⟨pa,x,hpA,hpb,hx,hcx,hfx⟩:=hA.at_ (k:=0) (by omega);subst hpA;rw[c6a] at hcx;have HX0:=Hd (c7e hx);have C2:=a8l x (A:=A) (n:=n) (c:=c) w;clear hx hfx
   cases hax:axF x n with
   | false =>
    rw[hax] at C2;have HX:=Hd (show a5z s a=(1,[]) by rw[HP.out,iN];rintro⟨_,h1,h2⟩;rw[HX0.out] at h1 h2;rw[HSL.out] at h2;rw[a9g.2 ⟨h1,h2⟩] at hax;cases hax);clear hax hS hA
    go_enter func107,ntmps107
    go_wp2_with fail
    refine C1.mono ?_;rintro e1 w1 ⟨rfl,rfl⟩;clear C1
    go_wp2_with fail
    refine C2.mono ?_;rintro e1 w1 ⟨rfl,rfl⟩;clear C2;go_wp2;go_ret2
    exact a0g HX (Below.refl _ _)
   | true =>
    rw[hax] at C2;have HX:=Hd (show a5z s a=(0,s) by rw[HP.out,iP];have:=a9g.1 hax;rw[HX0.out,HSL.out];exact⟨HAL,this.1,this.2⟩);have C3:=a4r (c:=c) hS (by omega);clear hax hS hA
    go_enter func107,ntmps107
    go_wp2_with fail
    refine C1.mono ?_;rintro e1 w1 ⟨rfl,rfl⟩;clear C1
    go_wp2_with fail
    refine C2.mono ?_;rintro e1 w1 ⟨rfl,rfl⟩;clear C2
    go_wp2_with fail
    refine C3.mono ?_;rintro e2 w2 ⟨⟨v,rfl,hO⟩,hb⟩;have HO:=Hd hO;clear C3 hO;go_wp2;go_ret2;exact a2p HX HO hb
  ·have dm:((m:Int) != 1)=true:=by simp;omega
   have HX:=Hd (show a5z s a=(1,[]) by rw[HP.out,iN];rintro⟨h1,_⟩;have:=HAL.out;omega);clear hm hS hA
   go_enter func107,ntmps107
   go_wp2_with fail
   refine C1.mono ?_;rintro e1 w1 ⟨rfl,rfl⟩;clear C1;go_wp2;go_ret2;exact a0g HX (Below.refl _ _)
theorem c7c {C:Option Addr}{na ca:Nat}{t:List Int}(hS:Ints w A n s)(hT:Ints w B m t)(hA:Ints w C na a)(kn:n≤c)(km:m≤d):
  Calls prog 114 #[.slice A n c,.slice B m d,.slice C na ca] w (a2y w (b2k s t a)):=by
 have HAL:=Hd hA.len;have hmle:=hA.le;by_cases hm:na=1
 ·subst hm;obtain⟨pa,x,hpA,hpb,hx,hcx,hfx⟩:=hA.at_ (k:=0) (by omega);subst hpA;rw[c6a] at hcx;have HX:=Hd (show b2k s t a=dsR s t x by rw[b2k,iP HAL.out,c7e hx]);have C2:=c0x (ca:=c) (cb:=d) x hS hT kn km;clear hx hfx hA hS hT
  go_enter func114,ntmps114
  go_wp2_with fail
  refine C2.mono ?_;rintro e2 w2 ⟨⟨v,k,rfl,hO⟩,hb⟩;have HO:=Hd hO;clear C2 hO;go_wp2;go_ret2;rw[HX.out];exact⟨⟨_,k,rfl,HO⟩,hb⟩
 ·have dm:((na:Int) != 1)=true:=by simp;omega
  have HX:=Hd (show b2k s t a=(1,[]) by rw[b2k,iN];have:=HAL.out;omega);clear hm hA hS hT
  go_enter func114,ntmps114
  go_wp2;go_ret2;exact a0g HX (Below.refl _ _)
theorem c1k (hS:Ints w A n s)(hA:Ints w B m a)(hmd:m≤d)(hr:Sh.right s=true):
  Calls prog 108 #[.slice A n c,.slice B m d] w (a2y w (a3y s a)):=by
 have HSL:=Hd hS.len;have HAL:=Hd hA.len;have hnle:=hS.le;have hmle:=hA.le;have hn4:n≤4:=by have:=(Sh.right_iff.1 hr).1;have:=HSL.out;omega
 by_cases hm:m=n
 ·subst hm;have hmk:=a2f underlying23 Tryz.infoInt (n:=m) (by omega);have h1:=(((Sep.nil w).old hS).old hA).noughts 3 m (by omega);have HRI:=Hd (Sh.right_iff.1 hr).2.1;clear hr
  go_enter func108,ntmps108
  go_upto_region 4 with fail
  generalize w.alloc (.cells (noughts m) 3)=W at *;generalize hgg:w.heap.size=g at *;have HGG:=Hd hgg;have H:=Hd h1;clear h1 hmk hgg
  go_wp2_with fail
  go_loopw [19] (fun iv wr=>∃ k:Nat,iv=.int .i64 k∧k≤m∧(∀ j,j<k→TuAt s a j)∧Sep w wr [.own 3 (.slice (some ⟨g,0,none⟩) m m) m (mix (a2x s a) (List.replicate m 0) k),.ints B m a,.ints A m s]) (fun iv _=>m-(intOf iv).toNat)
  case atStart=>exact⟨0,rfl,by omega,fun j hj=>by omega,by rw[a3q];exact H⟩
  case round =>
   clear H;obtain⟨k,rfl,hk,hall,hSp⟩:=hrel;have H:=Hd hSp;have HALL:=Hd hall;clear hSp hall;by_cases hlt:k<m
   ·obtain⟨pa,x,hpA,hpb,hx,hcx,hfx⟩:=(H.oldInts 1 rfl).at_ (k:=k) hlt;subst hpA;have HX:=Hd hx;have C2:=a8l x (A:=A) (n:=m) (c:=c) wr;clear hx hfx
    cases hax:axF x m with
    | false =>
     rw[hax] at C2
     have HQ:=Hd (show a3y s a=(1,[]) by
      rw[a3y,iN];intro hT;have:=hT.2 k x HX
      rw[a9g.2 ⟨this.1,by have:=HSL.out;omega⟩] at hax;cases hax)
     clear hax
     go_wp2_with fail
     refine C2.mono ?_;rintro e1 w1 ⟨rfl,rfl⟩;clear C2;go_wp2;go_ret2
     exact a0g HQ H.base
    | true =>
     rw[hax] at C2;have hax2:=a9g.1 hax;obtain⟨x,rfl⟩:=eZ hax2.1;have hxm:x<m:=by omega
     have C3:=a9x (c:=d) (x:Int) ((H.oldInts 1 rfl).take (k:=k) (by omega));clear hax hax2
     go_wp2_with fail
     refine C2.mono ?_;rintro e1 w1 ⟨rfl,rfl⟩;clear C2;by_cases hmem:(x:Int)∈a.take k
     ·rw[decide_eq_true hmem] at C3
      have HQ:=Hd (show a3y s a=(1,[]) by
       rw[a3y,iN];intro hT
       exact(hT.2 k x HX).2.2 hmem)
      clear hmem
      go_wp2_with fail
      refine C3.mono ?_;rintro e1 w1 ⟨rfl,rfl⟩;clear C3;go_wp2;go_ret2;exact a0g HQ H.base
     ·rw[decide_eq_false hmem] at C3;obtain⟨ps,y,hpS,hsb,hy,hcy,hfy⟩:=(H.oldInts 2 rfl).at_ (k:=x) hxm;subst hpS;have hO:=H.own 0 rfl;have hfr:=hO.frozen k;have hcz:=hO.cell (j:=k) (x:=0) (a6k (by rw[a3e];exact HAL) hlt)
      have HT:=Hd (show TuAt s a k from fun z hz=>by
       rw[HX.out] at hz;injection hz with hz;subst hz
       exact⟨by omega,by have:=HSL.out;omega,hmem⟩)
      have hst:=H.store 0 k (x:=y) hfy rfl;rw[a4j (by rw[a3e];exact HAL.out) (b8f HX.out (by rw[Int.toNat_natCast];exact hy))] at hst;have HST:=Hd hst;clear hmem hO hst hy hfy
      go_wp2_with fail
      refine C3.mono ?_;rintro e1 w1 ⟨rfl,rfl⟩;clear C3;go_wp2;go_roundw
      case rel=>exact⟨k+1,by go_num,by omega,fun j hj=>by
       rcases Nat.lt_or_ge j k with h' | h'
       ·exact HALL j h'
       ·obtain rfl:j=k:=by omega
        exact HT,HST⟩
      case measure=>simp[intOf];omega
   ·obtain rfl:k=m:=by omega
    have HQ:=Hd (show a3y s a=(0,a2x s a) by
     rw[a3y,iP];refine⟨by have:=HSL.out;have:=HAL.out;omega,fun j x hx=>?_⟩
     exact HALL j (by have:=(lL hx);have:=HAL.out;omega) x hx)
    have HE:=Hd (show mix (a2x s a) (List.replicate k 0) k=a2x s a from a6j (by rw[a3e];exact HAL));go_wp2;go_ret2;exact a2p HQ (by have:=H.ownS 0 rfl;rw[HE.out] at this;exact this) H.base
 ·have dm:((m:Int) != (n:Int))=true:=by simp;omega
  have HX:=Hd (show a3y s a=(1,[]) by rw[a3y,iN];rintro⟨h1,_⟩;have:=HAL.out;have:=HSL.out;omega);clear hm hA hS hr
  go_enter func108,ntmps108
  go_wp2;go_ret2;exact a0g HX (Below.refl _ _)
theorem c9g:SpOk s o a↔a.length=s.length∧a6x a o.length∧∀(k:Nat) (x y:Int),a[k]?=some x→s[k]?=some y→o[x.toNat]?=some y:=by
 constructor
 ·intro h;refine⟨h.1,fun k x hx=>?_,fun k x y hx hy=>(h.2 k x y hx hy).2.2.2⟩;obtain⟨y,hy⟩:=a0e (l:=s) (k:=k) (by rw[←h.1];exact(lL hx));have:=h.2 k x y hx hy;exact⟨this.1,this.2.1,this.2.2.1⟩
 ·rintro⟨hl,h,g⟩;refine⟨hl,fun k x y hx hy=>?_⟩;have:=h k x hx;exact⟨this.1,this.2.1,this.2.2,g k x y hx hy⟩
theorem c1j {O:Option Addr}{no co:Nat}(hS:Ints w A n s)(hO:Ints w O no o)(hA:Ints w B m a):
  Calls prog 109 #[.slice A n c,.slice O no co,.slice B m d] w (a2y w (a2w s o a)):=by
 have C1:=a5u (c:=co) hO;have HSL:=Hd hS.len;have HOL:=Hd hO.len;have HAL:=Hd hA.len;have hnle:=hS.le;have hole:=hO.le;have hmle:=hA.le
 cases hr:Sh.right o with
 | false =>
  rw[hr] at C1;have HX:=Hd (show a2w s o a=(13,[]) by rw[a2w,hr];rfl);clear hr hS hA hO
  go_enter func109,ntmps109
  go_wp2_with fail
  refine C1.mono ?_;rintro e1 w1 ⟨rfl,rfl⟩;clear C1;go_wp2;go_ret2
  exact a0g HX (Below.refl _ _)
 | true =>
  rw[hr] at C1;have HPY:=Hd (show SpOk s o a→a2w s o a=(0,o) from fun h=>by rw[a2w,hr,iP rfl,iP h]);have HPN:=Hd (show ¬ SpOk s o a→a2w s o a=(1,[]) from fun h=>by rw[a2w,hr,iP rfl,iN h]);have hn4:no≤4:=by have:=(Sh.right_iff.1 hr).1;have:=HOL.out;omega
  clear hr;by_cases hm:m=n
  ·subst hm;have C2:=b3h (c:=d) (S:=O) (d:=co) hA hn4;by_cases hri:a6x a no
   ·rw[b4h hri] at C2;have HRI:=Hd hri;clear hri;have h1:=(((Sep.nil w).old hS).old hA).old hO
    go_enter func109,ntmps109
    go_wp2_with fail
    refine C1.mono ?_;rintro e1 w1 ⟨rfl,rfl⟩;clear C1
    go_wp2_with fail
    refine C2.mono ?_;rintro e1 w1 ⟨rfl,rfl⟩;clear C2
    go_wp2_with fail
    go_loopw [26] (fun iv wr=>∃ k:Nat,iv=.int .i64 k∧k≤m∧(∀(j:Nat) (x y:Int),j<k→a[j]?=some x→s[j]?=some y→o[x.toNat]?=some y)∧Sep w wr [.ints O no o,.ints B m a,.ints A m s]) (fun iv _=>m-(intOf iv).toNat)
    case atStart=>exact⟨0,rfl,by omega,fun j x y hj=>by omega,h1⟩
    case round =>
     clear h1;obtain⟨k,rfl,hk,hall,hSp⟩:=hrel;have H:=Hd hSp;have HALL:=Hd hall;clear hSp hall;by_cases hlt:k<m
     ·obtain⟨pa,x,hpA,hpb,hx,hcx,hfx⟩:=(H.oldInts 1 rfl).at_ (k:=k) hlt;subst hpA;obtain⟨ps,y,hpS,hpb2,hy,hcy,hfy⟩:=(H.oldInts 2 rfl).at_ (k:=k) hlt;subst hpS;have hxr:=HRI.out k x hx;obtain⟨x,rfl⟩:=eZ hxr.1;have hxo:x<no:=by omega
      obtain⟨po,z,hpO,hpb3,hz,hcz,hfz⟩:=(H.oldInts 0 rfl).at_ (k:=x) hxo;subst hpO;have HX:=Hd hx;have HY:=Hd hy;have HZ:=Hd hz;clear hx hy hz hfx hfy hfz hxr;by_cases hzy:z=y
      ·subst hzy
       go_wp2_with fail
       go_quiet (fail)
       go_wp2;go_roundw
       case rel=>exact⟨k+1,by go_num,by omega,fun j u v hj hu hv=>by
        rcases Nat.lt_or_ge j k with h' | h'
        ·exact HALL j u v h' hu hv
        ·obtain rfl:j=k:=by omega
         rw[HX.out] at hu;injection hu with hu;subst hu
         rw[HY.out] at hv;injection hv with hv;subst hv
         rw[Int.toNat_natCast];exact HZ,H.drewN _⟩
       case measure=>simp[intOf];omega
      ·have dz:(z != y)=true:=by simpa using hzy
       have HQ:=Hd (show a2w s o a=(1,[]) by
        refine HPN fun hT=>?_
        have h9:=(hT.2 k x y HX HY).2.2.2;rw[Int.toNat_natCast,HZ.out] at h9
        injection h9 with h9;exact hzy h9)
       clear hzy
       go_wp2_with fail
       go_quiet (fail)
       go_wp2;go_ret2;exact a0g HQ (H.drewN _).base
     ·obtain rfl:k=m:=by omega
      have HQ:=Hd (show a2w s o a=(0,o) by
       refine HPY (c9g.2 ?_);refine⟨by have:=HSL.out;have:=HAL.out;omega,by rw[HOL.out];exact HRI,fun j x y hx hy=>?_⟩
       exact HALL j x y (by have:=(lL hx);have:=HAL.out;omega) hx hy)
      have C3:=a4r (c:=co) (H.oldInts 0 rfl) (by omega)
      go_wp2_with fail
      refine C3.mono ?_;rintro e2 w2 ⟨⟨v,rfl,hO⟩,hb⟩;have H2:=Hd (H.addOwn hb hO);clear C3 hO hb;go_wp2;go_ret2;exact a2p HQ (H2.ownS 0 rfl) H2.base
   ·rw[b2s hri] at C2;have HX:=Hd (show a2w s o a=(1,[]) by refine HPN fun h=>?_;exact hri (by have:=(c9g.1 h).2.1;rwa [HOL.out] at this));clear hri hS hA hO
    go_enter func109,ntmps109
    go_wp2_with fail
    refine C1.mono ?_;rintro e1 w1 ⟨rfl,rfl⟩;clear C1
    go_wp2_with fail
    refine C2.mono ?_;rintro e1 w1 ⟨rfl,rfl⟩;clear C2;go_wp2;go_ret2;exact a0g HX (Below.refl _ _)
  ·have dm:((m:Int) != (n:Int))=true:=by simp;omega
   have HX:=Hd (show a2w s o a=(1,[]) by refine HPN ?_;rintro⟨h1,_⟩;have:=HAL.out;have:=HSL.out;omega);clear hm hA hS hO
   go_enter func109,ntmps109
   go_wp2_with fail
   refine C1.mono ?_;rintro e1 w1 ⟨rfl,rfl⟩;clear C1;go_wp2;go_ret2;exact a0g HX (Below.refl _ _)
end Go.Proofs.YtajhdeddgdhccaaGreatDoor
