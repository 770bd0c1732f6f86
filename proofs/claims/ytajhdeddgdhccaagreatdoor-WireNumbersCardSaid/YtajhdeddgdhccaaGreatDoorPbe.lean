import Derived.Test.YtajhdeddgdhccaaGreatDoorPbd
set_option maxRecDepth 100000
set_option maxHeartbeats 12800000
namespace Go.Proofs.YtajhdeddgdhccaaGreatDoor
open Go.RowKit Go.Proofs.Tryz
variable {A B:Option Addr} {a s:List Int} {c d m n:Nat} {w:World}
theorem c1i (hS:Ints w A n s)(hA:Ints w B m a)(hmd:m≤d)(hr:Sh.right s=true):
  Calls prog 110 #[.slice A n c,.slice B m d] w (a2y w (a3x s a)):=by
 have HSL:=Hd hS.len;have HAL:=Hd hA.len;have hnle:=hS.le;have hmle:=hA.le;have hn4:n≤4:=by have:=(Sh.right_iff.1 hr).1;have:=HSL.out;omega
 have hw2:IntKind.i64.wrap (2*(n:Int))=2*(n:Int):=IntWalk.i64_in _ ⟨by omega,by omega⟩;by_cases hm:m=2*n
 ·have dm:((m:Int) != 2*(n:Int))=false:=by simp;omega
  have HM:=Hd hm;have hnm:n≤m:=by omega
  have hdf:m-n=n:=by omega
  have HRI:=Hd (Sh.right_iff.1 hr).2.1;have hsl1:=a5v hA hnm hmd;have hsl2:=a8b hA hnm hmd;rw[hdf] at hsl2;have hI1:=hA.take hnm;have hI2:=hA.dropA hnm hmd;rw[hdf] at hI2;obtain⟨A2,hA2⟩:∃ A2,dropA B d n=A2:=⟨_,rfl⟩;rw[hA2] at hsl2 hI2;obtain⟨fl,hfl⟩:∃ fl,a.take n=fl:=⟨_,rfl⟩;obtain⟨zl,hzl⟩:∃ zl,a.drop n=zl:=⟨_,rfl⟩;rw[hfl] at hI1;rw[hzl] at hI2;have HFL:=Hd hI1.len;have HZL:=Hd hI2.len;have HPY:=Hd (show a3j s fl zl=true→a3x s a=(0,zl) from fun h=>by rw[a3x,HSL.out,hfl,hzl,iP ⟨by have:=HAL.out;omega,h⟩]);have HPN:=Hd (show ¬ a3j s fl zl=true→a3x s a=(1,[]) from fun h=>by rw[a3x,HSL.out,hfl,hzl,iN (fun hc=>h hc.2)]);have h1:=(((Sep.nil w).old hI2).old hI1).old hS;clear hA2 hfl hzl hm hr hI1 hI2 hS hA hdf
  go_enter func110,ntmps110
  go_upto_region 3 with fail
  go_quiet (fail)
  have H:=Hd (h1.drewN nq);generalize w.drewN nq=w1 at *;clear h1 hsl1 hsl2
  go_wp2_with fail
  go_loopw [26] (fun iv wr=>∃ k:Nat,iv=.int .i64 k∧k≤n∧(∀(j:Nat) (x b y:Int),j<k→s[j]?=some x→fl[j]?=some b→zl[j]?=some y→0≤b∧0≤y∧b≤x∧y≤x-b)∧Sep w wr [.ints A n s,.ints B n fl,.ints A2 n zl]) (fun iv _=>n-(intOf iv).toNat)
  case atStart=>exact⟨0,rfl,by omega,fun j x b y hj=>by omega,H⟩
  case round =>
   clear H;obtain⟨k,rfl,hk,hall,hSp⟩:=hrel;have H:=Hd hSp;have HALL:=Hd hall;clear hSp hall;by_cases hlt:k<n
   ·obtain⟨sd,x,hsA,hbs,hx,hcs,hfs⟩:=(H.oldInts 0 rfl).at_ hlt;subst hsA;obtain⟨fd,b,hfA,hbf,hb,hcf,hff⟩:=(H.oldInts 1 rfl).at_ hlt;subst hfA;obtain⟨zd,y,hzA,hbz,hy,hcz,hfz⟩:=(H.oldInts 2 rfl).at_ hlt;subst hzA;obtain⟨hx0,hx1⟩:=HRI.out x (mG hx);obtain⟨hff1,hff2⟩:=hff;obtain⟨hfz1,hfz2⟩:=hfz;have HE:=Hd (⟨hx,hb,hy⟩:_∧_∧_);clear hx hb hy hfs;have HBAD:=Hd (show ¬(0≤b∧0≤y∧b≤x∧y≤x-b)→a3x s a=(1,[]) from fun hbad=>HPN.out fun hc=>hbad (a9t hc HE.out.1 HE.out.2.1 HE.out.2.2));by_cases g1:b<0
    ·have d1:decide (b<0)=true:=by simpa using g1
     have HX:=Hd (HBAD (by omega));clear HBAD
     go_wp2_with fail
     go_quiet (fail)
     go_wp2;go_ret2;exact a0g HX (H.drewN _).base
    have d1:decide (b<0)=false:=by simpa using g1
    by_cases g2:y<0
    ·have d2:decide (y<0)=true:=by simpa using g2
     have HX:=Hd (HBAD (by omega));clear HBAD
     go_wp2_with fail
     go_quiet (fail)
     go_wp2;go_ret2;exact a0g HX (H.drewN _).base
    have d2:decide (y<0)=false:=by simpa using g2
    have hw:IntKind.i64.wrap (x-b)=x-b:=IntWalk.i64_in _ ⟨by omega,by omega⟩;by_cases g3:x-b<y
    ·have d3:decide (x-b<y)=true:=by simpa using g3
     have HX:=Hd (HBAD (by omega));clear HBAD
     go_wp2_with fail
     go_quiet (fail)
     go_wp2;go_ret2;exact a0g HX (H.drewN _).base
    have d3:decide (x-b<y)=false:=by simpa using g3
    clear HBAD
    go_wp2_with fail
    go_quiet (fail)
    go_wp2;go_roundw
    case rel=>exact⟨k+1,by go_num,by omega,fun j u v t hj hu hv ht=>by
     rcases Nat.lt_or_ge j k with h' | h'
     ·exact HALL j u v t h' hu hv ht
     ·obtain rfl:j=k:=by omega
      rw[HE.out.1] at hu;rw[HE.out.2.1] at hv;rw[HE.out.2.2] at ht;injection hu with hu;injection hv with hv;injection ht with ht
      omega,H.drewN _⟩
    case measure=>simp[intOf];omega
   ·obtain rfl:k=n:=by omega
    have HX:=Hd (HPY (b3c (by have:=HSL.out;have:=HFL.out;omega) (by have:=HSL.out;have:=HZL.out;omega) fun j x b y hx hb hy=>HALL.out j x b y (by have:=(lL hx);have:=HSL.out;omega) hx hb hy));have C3:=a4r (c:=d-k) (H.oldInts 2 rfl) (by omega)
    go_wp2_with fail
    refine C3.mono ?_;rintro e2 w2 ⟨⟨v,rfl,hO⟩,hb⟩;have H2:=Hd (H.addOwn hb hO);clear C3 hO hb;go_wp2;go_ret2;exact a2p HX (H2.ownS 0 rfl) H2.base
 ·have dm:((m:Int) != 2*(n:Int))=true:=by simp;omega
  have HX:=Hd (show a3x s a=(1,[]) by rw[a3x,iN];rintro⟨h1,_⟩;have:=HAL.out;have:=HSL.out;omega);clear hm hA hS hr
  go_enter func110,ntmps110
  go_wp2;go_ret2;exact a0g HX (Below.refl _ _)
theorem d2i {lo hi:List Int}(h1:lo.length=s.length)(h2:hi.length=s.length):b2j s lo hi↔∀ x∈lo++hi,0≤x∧x≤32:=by
 constructor
 ·intro h x hx;rcases List.mem_append.1 hx with hx|hx
  ·obtain⟨k,hk⟩:=List.getElem?_of_mem hx;obtain⟨y,hy⟩:=a0e (l:=hi) (k:=k) (by have:=(lL hk);omega);have:=h.2.2 k x y hk hy;omega
  ·obtain⟨k,hk⟩:=List.getElem?_of_mem hx;obtain⟨y,hy⟩:=a0e (l:=lo) (k:=k) (by have:=(lL hk);omega);have:=h.2.2 k y x hy hk;omega
 ·intro h;refine⟨h1,h2,fun k x y hx hy=>?_⟩;have:=h x (List.mem_append.2 (.inl (mG hx)));have:=h y (List.mem_append.2 (.inr (mG hy)));omega
theorem c1g (hS:Ints w A n s)(hA:Ints w B m a)(hmd:m≤d)(hr:Sh.right s=true):
  Calls prog 111 #[.slice A n c,.slice B m d] w (a2y w (a3l s a)):=by
 have HSL:=Hd hS.len;have HAL:=Hd hA.len;have hnle:=hS.le;have hmle:=hA.le;have hn4:n≤4:=by have:=(Sh.right_iff.1 hr).1;have:=HSL.out;omega
 have hw2:IntKind.i64.wrap (2*(n:Int))=2*(n:Int):=IntWalk.i64_in _ ⟨by omega,by omega⟩;by_cases hm:m=2*n
 ·have dm:((m:Int) != 2*(n:Int))=false:=by simp;omega
  have HM:=Hd hm;have hm8:m≤8:=by omega
  have hnm:n≤m:=by omega
  have HRI:=Hd (Sh.right_iff.1 hr).2.1
  have HPI:=Hd (show b2j s (a.take n) (a.drop n)↔∀ x∈a,0≤x∧x≤32 by
   have:=d2i (s:=s) (lo:=a.take n) (hi:=a.drop n) (by rw[List.length_take];have:=HAL.out;have:=HSL.out;omega) (by rw[List.length_drop];have:=HAL.out;have:=HSL.out;omega)
   rwa [List.take_append_drop] at this)
  have HPY:=Hd (show b2j s (a.take n) (a.drop n)→a3l s a=ownP (padS s (a.take n) (a.drop n)) from fun h=>by rw[a3l,HSL.out,iP ⟨by have:=HAL.out;omega,h⟩]);have HPN:=Hd (show ¬ b2j s (a.take n) (a.drop n)→a3l s a=(1,[]) from fun h=>by rw[a3l,HSL.out,iN (fun hc=>h hc.2)]);have h1:=((Sep.nil w).old hA).old hS;clear hm hr hS hA
  go_enter func111,ntmps111
  go_wp2_with fail
  go_loopw [19] (fun iv wr=>∃ k:Nat,iv=.int .i64 k∧k≤m∧(∀(j:Nat) (x:Int),j<k→a[j]?=some x→0≤x∧x≤32)∧Sep w wr [.ints A n s,.ints B m a]) (fun iv _=>m-(intOf iv).toNat)
  case atStart=>exact⟨0,rfl,by omega,fun j x hj=>by omega,h1⟩
  case round =>
   clear h1;obtain⟨k,rfl,hk,hall,hSp⟩:=hrel;have H:=Hd hSp;have HALL:=Hd hall;clear hSp hall;by_cases hlt:k<m
   ·obtain⟨fd,x,hfA,hbf,hx,hcf,hff⟩:=(H.oldInts 1 rfl).at_ hlt;subst hfA;have HX:=Hd hx;have HBAD:=Hd (show ¬(0≤x∧x≤32)→a3l s a=(1,[]) from fun hbad=>HPN.out fun hc=>hbad (HPI.out.1 hc x (mG HX)));clear hx hff;by_cases g1:x<0
    ·have d1:decide (x<0)=true:=by simpa using g1
     have HX:=Hd (HBAD (by omega));clear HBAD;go_wp2;go_ret2;exact a0g HX H.base
    have d1:decide (x<0)=false:=by simpa using g1
    by_cases g2:32<x
    ·have d2:decide (32<x)=true:=by simpa using g2
     have HX:=Hd (HBAD (by omega));clear HBAD;go_wp2;go_ret2;exact a0g HX H.base
    have d2:decide (32<x)=false:=by simpa using g2
    clear HBAD;go_wp2;go_roundw
    case rel=>exact⟨k+1,by go_num,by omega,fun j u hj hu=>by
     rcases Nat.lt_or_ge j k with h' | h'
     ·exact HALL j u h' hu
     ·obtain rfl:j=k:=by omega
      rw[HX.out] at hu;injection hu with hu;omega,H⟩
    case measure=>simp[intOf];omega
   ·obtain rfl:k=m:=by omega
    have HN:=Hd (show ∀ x∈a,0≤x∧x≤32 from fun x hx=>by
     obtain⟨j,hj⟩:=List.getElem?_of_mem hx
     exact HALL j x (by have:=(lL hj);have:=HAL.out;omega) hj)
    have HX:=Hd (HPY (HPI.out.2 HN));clear HPY HPN HPI;obtain⟨P,hP⟩:∃ P,padS s (a.take n) (a.drop n)=P:=⟨_,rfl⟩;rw[hP] at HX;have HPL:=Hd (show P.length=n by rw[←hP,a7d (by rw[List.length_take];have:=HAL.out;have:=HSL.out;omega) (by rw[List.length_drop];have:=HAL.out;have:=HSL.out;have:=HM.out;omega)];exact HSL)
    have HPA:=Hd (show ∀(j:Nat) (x y z:Int),j<n→a[j]?=some x→s[j]?=some y→a[n+j]?=some z→P[j]?=some (x+y+z) from fun j x y z hj hx hy hz=>by
     rw[←hP]
     exact c1x (by rw[List.getElem?_take,iP hj];exact hx) hy (by rw[List.getElem?_drop];exact hz))
    clear hP;have hmk:=a2f underlying23 Tryz.infoInt (n:=n) (by omega);have h1:=H.noughts 3 n (by omega)
    go_upto_region 10 with fail
    generalize wr.alloc (.cells (noughts n) 3)=W at *;generalize hgg:wr.heap.size=g at *;have HGG:=Hd hgg;replace H:=Hd h1;clear h1 hmk hgg
    go_wp2_with fail
    go_loopw [35] (fun iv wr=>∃ q:Nat,iv=.int .i64 q∧q≤n∧Sep w wr [.own 3 (.slice (some ⟨g,0,none⟩) n n) n (mix P (List.replicate n 0) q),.ints A n s,.ints B k a]) (fun iv _=>n-(intOf iv).toNat)
    case atStart=>exact⟨0,rfl,by omega,by rw[a3q];exact H⟩
    case round =>
     clear H;obtain⟨q,rfl,hq,hSp⟩:=hrel;have H:=Hd hSp;clear hSp;by_cases hlq:q<n
     ·obtain⟨sd,y,hsA,hbs,hy,hcs,hfs⟩:=(H.oldInts 1 rfl).at_ hlq;subst hsA;obtain⟨pa,x,hpA,hpb,hx,hcx,hfx⟩:=(H.oldInts 2 rfl).at_ (k:=q) (by omega);subst hpA;obtain⟨pa2,z,hpA2,hpb2,hz,hcz,hfz⟩:=(H.oldInts 2 rfl).at_ (k:=n+q) (by have:=HM.out;omega);injection hpA2 with hpA2
      subst hpA2;have hb1:=HRI.out y (mG hy);have hb2:=HN.out x (mG hx);have hb3:=HN.out z (mG hz);obtain⟨p,hp⟩:∃ p,n+q=p:=⟨_,rfl⟩;have HPP:=Hd hp;have hnq:p<k:=by have:=HM.out;omega
      have hqk:q<k:=by omega
      rw[hp] at hcz;have hO:=H.own 0 rfl;have hfr:=hO.frozen q;have hco:=hO.cell (j:=q) (x:=0) (a6k HPL hlq);have hst:=H.store 0 q (x:=x+y+z) ⟨by omega,by omega⟩ rfl;rw[a4j HPL.out (HPA.out q x y z hlq hx hy hz)] at hst;have HST:=Hd hst;have hw3:IntKind.i64.wrap (x+y)=x+y:=IntWalk.i64_in _ ⟨by omega,by omega⟩;have hw4:IntKind.i64.wrap (x+y+z)=x+y+z:=IntWalk.i64_in _ ⟨by omega,by omega⟩;have hw6:(n:Int)+(q:Int)=(p:Int):=by omega
      have hw7:IntKind.i64.wrap (p:Int)=(p:Int):=IntWalk.i64_in _ ⟨by omega,by omega⟩;clear hp hO hst hx hy hz hfx hfs hfz hb1 hb2 hb3
      go_upto_region 13 with fail
      go_still_tail 17,(by kernel_rfl)
      change wpList _ _ _ _ _ wr.drew;have hco1:wr.drew.cell? ⟨g,q,none⟩=some (.int .i64 0):=hco;have hfr1:wr.drew.frozen? ⟨g,q,none⟩=false:=hfr;go_wp2;go_roundw
      case rel=>exact⟨q+1,by go_num,by omega,HST.drew⟩
      case measure=>simp[intOf];omega
     ·obtain rfl:q=n:=by omega
      have HE:=Hd (show mix P (List.replicate q 0) q=P from a6j HPL);have hS9:=H.out;rw[HE.out] at hS9;have H9:=Hd hS9;have C3:=b2n (c:=q) (H9.ownInts 0 rfl).2.2;clear hS9
      go_wp2_with fail
      refine C3.mono ?_;rintro e2 w2 ⟨⟨v,j,rfl,hO⟩,hb⟩;replace H:=Hd (H.addOwn hb hO);clear C3 hO hb;go_wp2;go_ret2;rw[HX.out];exact⟨⟨_,j,rfl,H.ownS 0 rfl⟩,H.base⟩
 ·have dm:((m:Int) != 2*(n:Int))=true:=by simp;omega
  have HX:=Hd (show a3l s a=(1,[]) by rw[a3l,iN];rintro⟨h1,_⟩;have:=HAL.out;have:=HSL.out;omega);clear hm hA hS hr
  go_enter func111,ntmps111
  go_wp2;go_ret2;exact a0g HX (Below.refl _ _)
theorem c1e (how:Int)(hS:Ints w A n s)(hA:Ints w B m a)(hr:Sh.right s=true):
  Calls prog 113 #[.int .i64 how,.slice A n c,.slice B m d] w (a2y w (a3s how s a)):=by
 have HSL:=Hd hS.len;have HAL:=Hd hA.len;have hnle:=hS.le;have hmle:=hA.le;have hn4:n≤4:=by have:=(Sh.right_iff.1 hr).1;have:=HSL.out;omega
 have C1:=b3e how w
 cases hh:a4c how with
 | false =>
  rw[hh] at C1;have HX:=Hd (show a3s how s a=(1,[]) by rw[a3s,iN];rw[hh];simp);clear hh hA hS hr
  go_enter func113,ntmps113
  go_wp2_with fail
  refine C1.mono ?_;rintro e1 w1 ⟨rfl,rfl⟩;clear C1;go_wp2;go_ret2
  exact a0g HX (Below.refl _ _)
 | true =>
  rw[hh] at C1;have C2:=b3h (c:=d) (S:=A) (d:=c) hA hn4;by_cases hri:a6x a n
  ·rw[b4h hri] at C2;have HX:=Hd (show a3s how s a=ownP (rest a s) by rw[a3s,iP ⟨hh,by rw[HSL.out];exact hri⟩]);have h1:=((Sep.nil w).old hA).old hS;clear hh hri hr hS hA;have hmk:=b0p underlying23 Tryz.infoInt (n:=n) (by omega);have h2:=h1.room 3 n (by omega)
   go_enter func113,ntmps113
   go_wp2_with fail
   refine C1.mono ?_;rintro e1 w1 ⟨rfl,rfl⟩;clear C1
   go_wp2_with fail
   refine C2.mono ?_;rintro e1 w1 ⟨rfl,rfl⟩;clear C2
   go_upto_region 4 with fail
   generalize w.alloc (.cells (noughts n) 3)=W at *;have H:=Hd h2;clear h1 h2 hmk
   go_wp2_with fail
   go_loopw [25,8] (fun iv lv wr=>∃(k:Nat) (lx:Value),lx=lv∧iv=.int .i64 k∧k≤n∧Sep w wr [.own 3 lx (rest a (s.take k)).length (rest a (s.take k)),.ints A n s,.ints B m a]) (fun iv _ _=>n-(intOf iv).toNat)
   case atStart=>exact⟨0,_,rfl,rfl,by omega,H⟩
   case round =>
    clear H;obtain⟨k,lx,rfl,rfl,hk,hSp⟩:=hrel;have H:=Hd hSp;clear hSp;by_cases hlt:k<n
    ·obtain⟨sd,y,hsA,hbs,hy,hcs,hfs⟩:=(H.oldInts 1 rfl).at_ hlt;subst hsA;have HR:=Hd (b4f (axes:=a) hy);have HF:=Hd hfs;have C3:=a9x (c:=d) (k:Int) (H.oldInts 2 rfl)
     have hlen:(rest a (s.take k)).length≤k:=by
      have:=a3o a (s.take k) 0;rw[List.length_take] at this;exact Nat.le_trans this (Nat.min_le_left _ _)
     clear hy hfs;by_cases hmem:(k:Int)∈a
     ·rw[decide_eq_true hmem] at C3;have HR2:=Hd (show rest a (s.take (k+1))=rest a (s.take k) by rw[HR.out,iP hmem,List.append_nil]);clear hmem hlen
      go_wp2_with fail
      refine C3.mono ?_;rintro e1 w1 ⟨rfl,rfl⟩;clear C3;go_wp2;go_roundw
      case rel=>exact⟨k+1,_,rfl,by go_num,by omega,by rw[HR2.out];exact H⟩
      case measure=>simp[intOf];omega
     ·rw[decide_eq_false hmem] at C3;have HR2:=Hd (show rest a (s.take (k+1))=rest a (s.take k)++[y] by rw[HR.out,iN hmem]);clear hmem
      go_wp2_with fail
      refine C3.mono ?_;rintro e1 w1 ⟨rfl,rfl⟩;clear C3
      go_wp2_with (at_builtin;refine a0u rfl (.tmp 34) (.tmp 36) 23 3 rfl underlying23 Tryz.infoInt H.out 0 rfl rfl y HF.out _ rfl ?c1 ?_)
      case c1=>omega
      intro v' w' h';have H8:=Hd h';clear h' hlen;go_wp2;go_roundw
      case rel=>exact⟨k+1,_,rfl,by go_num,by omega,by rw[HR2.out,List.length_append,List.length_singleton];exact H8⟩
      case measure=>simp[intOf];omega
    ·obtain rfl:k=n:=by omega
     have hS9:=H.out;rw[List.take_of_length_le (by have:=HSL.out;omega)] at hS9;obtain⟨A9,c9,hv,_,_,_⟩:=(hS9.ownS 0 rfl).form;subst hv;have H9:=Hd hS9;have C3:=b2n (c:=c9) (H9.ownInts 0 rfl).2.2;clear hS9
     go_wp2_with fail
     refine C3.mono ?_;rintro e2 w2 ⟨⟨v,j,rfl,hO⟩,hb⟩;have H2:=Hd (H9.addOwn hb hO);clear C3 hO hb;go_wp2;go_ret2;rw[HX.out];exact⟨⟨_,j,rfl,H2.ownS 0 rfl⟩,H2.base⟩
  ·rw[b2s hri] at C2;have HX:=Hd (show a3s how s a=(1,[]) by rw[a3s,iN];rintro⟨_,h⟩;rw[HSL.out] at h;exact hri h);clear hh hri hr hS hA
   go_enter func113,ntmps113
   go_wp2_with fail
   refine C1.mono ?_;rintro e1 w1 ⟨rfl,rfl⟩;clear C1
   go_wp2_with fail
   refine C2.mono ?_;rintro e1 w1 ⟨rfl,rfl⟩;clear C2;go_wp2;go_ret2;exact a0g HX (Below.refl _ _)
theorem b7l (how:Int)(hS:Ints w A n s)(hA:Ints w B m a)(hr:Sh.right s=true):
  Calls prog 115 #[.int .i64 how,.slice A n c,.slice B m d] w (a2y w (a1h how s a)):=by
 have HSL:=Hd hS.len;have HAL:=Hd hA.len;have hnle:=hS.le;have hmle:=hA.le;have hn4:n≤4:=by have:=(Sh.right_iff.1 hr).1;have:=HSL.out;omega
 have C1:=b3e how w;by_cases hm:m=3
 ·have dm:((m:Int) != 3)=false:=by simp;omega
  have HM:=Hd hm
  cases hh:a4c how with
  | false =>
   rw[hh] at C1;have HX:=Hd (show a1h how s a=(1,[]) by rw[a1h,iN];rw[hh];simp);clear hh hA hS hr hm
   go_enter func115,ntmps115
   go_wp2_with fail
   refine C1.mono ?_;rintro e1 w1 ⟨rfl,rfl⟩;clear C1;go_wp2;go_ret2
   exact a0g HX (Below.refl _ _)
  | true =>
   rw[hh] at C1;obtain⟨pa,x,hpA,hpb,hx,hcx,hfx⟩:=hA.at_ (k:=0) (by omega);obtain⟨pa1,y,hpA1,hpb1,hy,hcy,hfy⟩:=hA.at_ (k:=1) (by omega);obtain⟨pa2,z,hpA2,hpb2,hz,hcz,hfz⟩:=hA.at_ (k:=2) (by omega);subst hpA;injection hpA1 with hpA1;subst hpA1
   injection hpA2 with hpA2;subst hpA2
   rw[c6a] at hcx;simp[Addr.add] at hcy;simp[Addr.add] at hcz
   have HPY:=Hd (show b1n s x=true→b0w y z=true→a1h how s a=(0,winS s x.toNat y z) from fun h1 h2=>by
    rw[a1h,c7e hx,c7f hy,c7f hz,iP ⟨by have:=HAL.out;have:=HM.out;omega,hh,h1,h2⟩])
   have HPN:=Hd (show ¬(b1n s x=true∧b0w y z=true)→a1h how s a=(1,[]) from fun h=>by
    rw[a1h,c7e hx,c7f hy,c7f hz,iN (fun hc=>h ⟨hc.2.2.1,hc.2.2.2⟩)])
   have hj0:(0:Int)<m:=by omega
   have hj1:(1:Int)<m:=by omega
   have hj2:(2:Int)<m:=by omega
   have hl0:0<m:=by omega
   have hl1:1<m:=by omega
   have hl2:2<m:=by omega
   have HFY:=Hd hfy;have HFZ:=Hd hfz;have HRR:=Hd hr;have h1:=(Sep.nil w).old hS;clear hx hy hz hfx hfy hfz hm hh hA hS hr;have hax:b1n s x=axF x n:=by rw[b1n,axF,HSL.out]
   have C2:=fun w=>a8l x (A:=A) (n:=n) (c:=c) w
   cases hax2:axF x n with
   | false =>
    simp only[hax2] at C2;have HX:=Hd (HPN (fun hc=>by rw[hax,hax2] at hc;cases hc.1));clear hax hax2
    go_enter func115,ntmps115
    go_wp2_with fail
    refine C1.mono ?_;rintro e1 w1 ⟨rfl,rfl⟩;clear C1
    go_upto_region 3 with fail
    go_quiet (fail)
    have H:=Hd (h1.drewN nq);generalize w.drewN nq=w1 at *;clear h1 hcx hcy hcz
    go_wp2_with fail
    refine(C2 _).mono ?_;rintro e1 w1 ⟨rfl,rfl⟩;clear C2;go_wp2;go_ret2
    exact a0g HX H.base
   | true =>
    simp only[hax2] at C2;obtain⟨hx0,hxn⟩:=a9g.1 hax2;obtain⟨x,rfl⟩:=eZ hx0;have hxn2:x<n:=by omega
    have HAX:=Hd (show b1n s (x:Int)=true by rw[hax,hax2]);clear hax hax2;have HBAD:=Hd (show ¬(1≤y∧y≤32∧1≤z∧z≤32)→a1h how s a=(1,[]) from fun hb=>HPN.out (fun hc=>hb (b0x.1 hc.2)))
    go_enter func115,ntmps115
    go_wp2_with fail
    refine C1.mono ?_;rintro e1 w1 ⟨rfl,rfl⟩;clear C1
    go_upto_region 3 with fail
    go_quiet (fail)
    have H:=Hd (h1.drewN nq);generalize w.drewN nq=w1 at *;clear h1 hcx hcy hcz
    go_wp2_with fail
    refine(C2 _).mono ?_;rintro e1 w1 ⟨rfl,rfl⟩;clear C2;by_cases g1:y<1
    ·have d1:decide (y<1)=true:=by simpa using g1
     have HX:=Hd (HBAD (by omega));clear HBAD;go_wp2;go_ret2;exact a0g HX H.base
    have d1:decide (y<1)=false:=by simpa using g1
    by_cases g2:32<y
    ·have d2:decide (32<y)=true:=by simpa using g2
     have HX:=Hd (HBAD (by omega));clear HBAD;go_wp2;go_ret2;exact a0g HX H.base
    have d2:decide (32<y)=false:=by simpa using g2
    by_cases g3:z<1
    ·have d3:decide (z<1)=true:=by simpa using g3
     have HX:=Hd (HBAD (by omega));clear HBAD;go_wp2;go_ret2;exact a0g HX H.base
    have d3:decide (z<1)=false:=by simpa using g3
    by_cases g4:32<z
    ·have d4:decide (32<z)=true:=by simpa using g4
     have HX:=Hd (HBAD (by omega));clear HBAD;go_wp2;go_ret2;exact a0g HX H.base
    have d4:decide (32<z)=false:=by simpa using g4
    have HX:=Hd (HPY HAX (b0x.2 ⟨by omega,by omega,by omega,by omega⟩));clear HBAD HPY HPN;rw[Int.toNat_natCast] at HX;have C3:=a4r (c:=c) (H.oldInts 0 rfl) (by omega)
    go_wp2_with fail
    refine C3.mono ?_;rintro e2 w2 ⟨⟨v,rfl,hO⟩,hb⟩;obtain⟨g,c2,hv,hOw⟩:=hO.own (by omega);subst hv;replace H:=Hd (H.addOwn hb hO);clear C3 hO hOw hb;obtain⟨ps,q,hpS,hpb3,hq,hcq,hfq⟩:=(H.oldInts 1 rfl).at_ (k:=x) hxn2;subst hpS;have HQ:=Hd hq;have hO:=H.own 0 rfl;have hfr:=hO.frozen x;have hco:=hO.cell (j:=x) hq;have C4:=fun w=>c9x q y z hfq HFY HFZ w
    have hqq:s.getD x 0=q:=c7f hq;have hbn:=(Sh.right_iff.1 HRR).2.1 q (mG hq);have hbw:=b8h (n:=q) (wide:=y) (apart:=z);have hst:=H.store 0 x (x:=winN q y z) (by have:=hbw.2 hbn.1;exact⟨by omega,by omega⟩) rfl;have HST:=Hd hst;have HX2:=Hd (show a1h how s a=(0,s.set x (winN q y z)) by rw[HX.out,winS,hqq]);clear hO hst hq hfq hqq hbn hbw
    go_wp2_with fail
    refine(C4 _).mono ?_;rintro e4 w4 ⟨rfl,rfl⟩;clear C4;go_wp2;go_ret2;exact a2p HX2 (HST.ownS 0 rfl) HST.base
 ·have dm:((m:Int) != 3)=true:=by simp;omega
  have HX:=Hd (show a1h how s a=(1,[]) by rw[a1h,iN];rintro⟨h1,_⟩;have:=HAL.out;omega);clear hm hA hS hr C1
  go_enter func115,ntmps115
  go_wp2;go_ret2;exact a0g HX (Below.refl _ _)
theorem c1d {L:List (List Int)}(hL:Lils w A n (s::L))(hc:n≤c)(hs4:s.length≤4):
  Calls prog 116 #[.slice A n c] w (a2y w (a2r (s::L))):=by
 obtain⟨A2,hsl,hL2⟩:=b6m hL hc;obtain⟨a,B,m,c0,rfl,hab,hca,hmc,hI⟩:=hL.head;have HNL:=Hd (show L.length=n-1 from hL2.1);have hn9:=hL.2.1;have hn1:1≤n:=by have:=hL.1;rw[List.length_cons] at this;omega
 have HL2:=Hd hL2;have HI:=Hd hI;have hm4:m≤4:=by have:=hI.len;omega
 have h1:=Sep.nil w;have hj0:(0:Int)<n:=by omega
 have hl0:0<n:=by omega
 have HCA:=Hd hca;clear hL hL2 hI hca
 go_enter func116,ntmps116
 go_wp2_with fail
 go_loopw [9] (fun iv wr=>∃ k:Nat,iv=.int .i64 k∧k≤n-1∧(∀(j:Nat) (x:List Int),j<k→L[j]?=some x→x=s)∧Sep w wr []) (fun iv _=>n-(intOf iv).toNat)
 case atStart=>exact⟨0,rfl,by omega,fun j x hj=>by omega,h1⟩
 case round =>
  clear h1;obtain⟨k,rfl,hk,hall,hSp⟩:=hrel;have H:=Hd hSp;have HALL:=Hd hall;clear hSp hall;by_cases hlt:k<n-1
  ·obtain⟨x,hx⟩:∃ x,L[k]?=some x:=gE (by have:=HNL.out;omega);obtain⟨a2,B2,m2,c2,hA2,hb2,hca2,hmc2,hI2⟩:=HL2.out.2.2 k x hx;subst hA2;have hcx:=H.oC hca2 (a4q hb2);have hc0:=H.oldCell hab HCA.out;have HX:=Hd hx;have C1:=b0r (c:=c2) (d:=c0) (H.oldI hI2) (H.oldI HI);clear hx hca2 hI2
   cases he:(x==s) with
   | false =>
    rw[he] at C1
    have HQ:=Hd (show a2r (s::L)=(13,[]) by
     rw[a2r,iN];intro h;have h9:=h x (List.mem_cons_of_mem _ (mG HX));have h9:x=s:=h9
     rw[h9] at he;simp at he)
    clear he
    go_wp2_with fail
    refine C1.mono ?_;rintro e1 w1 ⟨rfl,rfl⟩;clear C1;go_wp2;go_ret2
    exact a0g HQ H.base
   | true =>
    rw[he] at C1;have HE:=Hd (show x=s from eq_of_beq he);clear he
    go_wp2_with fail
    refine C1.mono ?_;rintro e1 w1 ⟨rfl,rfl⟩;clear C1 hcx hc0;go_wp2;go_roundw
    case rel=>exact⟨k+1,by go_num,by omega,fun j y hj hy=>by
     rcases Nat.lt_or_ge j k with h' | h'
     ·exact HALL j y h' hy
     ·obtain rfl:j=k:=by omega
      rw[HX.out] at hy;injection hy with hy;rw[←hy];exact HE,H⟩
    case measure=>simp[intOf];omega
  ·have HQ:=Hd (show a2r (s::L)=(0,s) by
    rw[a2r,iP]
    ·rfl
    ·intro x hx
     show x=s
     rcases List.mem_cons.1 hx with rfl|hx
     ·rfl
     ·obtain⟨j,hj⟩:=List.getElem?_of_mem hx
      exact HALL j x (by have:=(lL hj);have:=HNL.out;omega) hj)
   have hc0:=H.oldCell hab HCA.out;have C3:=a4r (c:=c0) (H.oldI HI) (by omega)
   go_wp2_with fail
   refine C3.mono ?_;rintro e2 w2 ⟨⟨v,rfl,hO⟩,hb⟩;have H2:=Hd (H.addOwn hb hO);clear C3 hO hb hc0;go_wp2;go_ret2;exact a2p HQ (H2.ownS 0 rfl) H2.base
end Go.Proofs.YtajhdeddgdhccaaGreatDoor
