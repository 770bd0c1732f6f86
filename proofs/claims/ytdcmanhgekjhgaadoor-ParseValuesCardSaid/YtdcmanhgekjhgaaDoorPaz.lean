import Derived.Test.YtdcmanhgekjhgaaDoorPay
set_option maxRecDepth 100000
set_option maxHeartbeats 12800000
namespace Go.Proofs.YtdcmanhgekjhgaaDoor
open Go.RowKit Go.Proofs.Tryd
variable {A B:Option Addr} {a s:List Int} {c d m n:Nat} {w:World}
theorem b5n (hS:Ints w A n s)(hA:Ints w B m a)(hmd:m≤d)(hr:Sh.right s=true):
  Calls prog 71 #[.slice A n c,.slice B m d] w (a1m w (a1r s a)):=by
 have HSL:=Hd hS.len;have HAL:=Hd hA.len;have hnle:=hS.le;have hmle:=hA.le;have hn4:n≤4:=by have:=(Sh.right_iff.1 hr).1;have:=HSL.out;omega
 have hw2:IntKind.i64.wrap (2*(n:Int))=2*(n:Int):=IntWalk.i64_in _ ⟨by omega,by omega⟩;by_cases hm:m=2*n
 ·have dm:((m:Int) != 2*(n:Int))=false:=by simp;omega
  have HM:=Hd hm;have hnm:n≤m:=by omega
  have hdf:m-n=n:=by omega
  have HRI:=Hd (Sh.right_iff.1 hr).2.1;have hsl1:=b0p hA hnm hmd;have hsl2:=c2h hA hnm hmd;rw[hdf] at hsl2;have hI1:=hA.take hnm;have hI2:=hA.dropA hnm hmd;rw[hdf] at hI2;obtain⟨A2,hA2⟩:∃ A2,dropA B d n=A2:=⟨_,rfl⟩;rw[hA2] at hsl2 hI2;obtain⟨fl,hfl⟩:∃ fl,a.take n=fl:=⟨_,rfl⟩;obtain⟨zl,hzl⟩:∃ zl,a.drop n=zl:=⟨_,rfl⟩;rw[hfl] at hI1;rw[hzl] at hI2;have HFL:=Hd hI1.len;have HZL:=Hd hI2.len;have HPY:=Hd (show a5g s fl zl=true→a1r s a=(0,zl) from fun h=>by rw[a1r,HSL.out,hfl,hzl,iP ⟨by have:=HAL.out;omega,h⟩]);have HPN:=Hd (show ¬ a5g s fl zl=true→a1r s a=(1,[]) from fun h=>by rw[a1r,HSL.out,hfl,hzl,iN (fun hc=>h hc.2)]);have h1:=(((Sep.nil w).old hI2).old hI1).old hS;clear hA2 hfl hzl hm hr hI1 hI2 hS hA hdf
  go_enter func71,ntmps71
  go_upto_region 3 with fail
  go_quiet (fail)
  have H:=Hd (h1.drewN nq);generalize w.drewN nq=w1 at *;clear h1 hsl1 hsl2
  go_wp2_with fail
  go_loopw [26] (fun iv wr=>∃ k:Nat,iv=.int .i64 k∧k≤n∧(∀(j:Nat) (x b y:Int),j<k→s[j]?=some x→fl[j]?=some b→zl[j]?=some y→0≤b∧0≤y∧b≤x∧y≤x-b)∧Sep w wr [.ints A n s,.ints B n fl,.ints A2 n zl]) (fun iv _=>n-(intOf iv).toNat)
  case atStart=>exact⟨0,rfl,by omega,fun j x b y hj=>by omega,H⟩
  case round =>
   clear H;obtain⟨k,rfl,hk,hall,hSp⟩:=hrel;have H:=Hd hSp;have HALL:=Hd hall;clear hSp hall;by_cases hlt:k<n
   ·obtain⟨sd,x,hsA,hbs,hx,hcs,hfs⟩:=(H.oldInts 0 rfl).at_ hlt;subst hsA;obtain⟨fd,b,hfA,hbf,hb,hcf,hff⟩:=(H.oldInts 1 rfl).at_ hlt;subst hfA;obtain⟨zd,y,hzA,hbz,hy,hcz,hfz⟩:=(H.oldInts 2 rfl).at_ hlt;subst hzA;obtain⟨hx0,hx1⟩:=HRI.out x (mG hx);obtain⟨hff1,hff2⟩:=hff;obtain⟨hfz1,hfz2⟩:=hfz;have HE:=Hd (⟨hx,hb,hy⟩:_∧_∧_);clear hx hb hy hfs;have HBAD:=Hd (show ¬(0≤b∧0≤y∧b≤x∧y≤x-b)→a1r s a=(1,[]) from fun hbad=>HPN.out fun hc=>hbad (b6u hc HE.out.1 HE.out.2.1 HE.out.2.2));by_cases g1:b<0
    ·have d1:decide (b<0)=true:=by simpa using g1
     have HX:=Hd (HBAD (by omega));clear HBAD
     go_wp2_with fail
     go_quiet (fail)
     go_wp2;go_ret2;exact a0b HX (H.drewN _).base
    have d1:decide (b<0)=false:=by simpa using g1
    by_cases g2:y<0
    ·have d2:decide (y<0)=true:=by simpa using g2
     have HX:=Hd (HBAD (by omega));clear HBAD
     go_wp2_with fail
     go_quiet (fail)
     go_wp2;go_ret2;exact a0b HX (H.drewN _).base
    have d2:decide (y<0)=false:=by simpa using g2
    have hw:IntKind.i64.wrap (x-b)=x-b:=IntWalk.i64_in _ ⟨by omega,by omega⟩;by_cases g3:x-b<y
    ·have d3:decide (x-b<y)=true:=by simpa using g3
     have HX:=Hd (HBAD (by omega));clear HBAD
     go_wp2_with fail
     go_quiet (fail)
     go_wp2;go_ret2;exact a0b HX (H.drewN _).base
    have d3:decide (x-b<y)=false:=by simpa using g3
    clear HBAD
    go_wp2_with fail
    go_quiet (fail)
    go_wp2;go_roundw
    case rel=>exact⟨k+1,by go_num,by omega,fun j u v t hj hu hv ht=>by
     rcases Nat.lt_or_ge j k with h' | h'
     ·exact HALL j u v t h' hu hv ht
     ·obtain rfl:j=k:=by omega
      rw[HE.out.1] at hu;rw[HE.out.2.1] at hv;rw[HE.out.2.2] at ht;injection hu with hu;injection hv with hv;injection ht with ht
      omega,H.drewN _⟩
    case measure=>simp[intOf];omega
   ·obtain rfl:k=n:=by omega
    have HX:=Hd (HPY (b3g (by have:=HSL.out;have:=HFL.out;omega) (by have:=HSL.out;have:=HZL.out;omega) fun j x b y hx hb hy=>HALL.out j x b y (by have:=(lL hx);have:=HSL.out;omega) hx hb hy));have C3:=a2c (c:=d-k) (H.oldInts 2 rfl) (by omega)
    go_wp2_with fail
    refine C3.mono ?_;rintro e2 w2 ⟨⟨v,rfl,hO⟩,hb⟩;have H2:=Hd (H.addOwn hb hO);clear C3 hO hb;go_wp2;go_ret2;exact a1h HX (H2.ownS 0 rfl) H2.base
 ·have dm:((m:Int) != 2*(n:Int))=true:=by simp;omega
  have HX:=Hd (show a1r s a=(1,[]) by rw[a1r,iN];rintro⟨h1,_⟩;have:=HAL.out;have:=HSL.out;omega);clear hm hA hS hr
  go_enter func71,ntmps71
  go_wp2;go_ret2;exact a0b HX (Below.refl _ _)
theorem c5h {lo hi:List Int}(h1:lo.length=s.length)(h2:hi.length=s.length):b0y s lo hi↔∀ x∈lo++hi,0≤x∧x≤32:=by
 constructor
 ·intro h x hx;rcases List.mem_append.1 hx with hx|hx
  ·obtain⟨k,hk⟩:=List.getElem?_of_mem hx;obtain⟨y,hy⟩:=a2d (l:=hi) (k:=k) (by have:=(lL hk);omega);have:=h.2.2 k x y hk hy;omega
  ·obtain⟨k,hk⟩:=List.getElem?_of_mem hx;obtain⟨y,hy⟩:=a2d (l:=lo) (k:=k) (by have:=(lL hk);omega);have:=h.2.2 k y x hy hk;omega
 ·intro h;refine⟨h1,h2,fun k x y hx hy=>?_⟩;have:=h x (List.mem_append.2 (.inl (mG hx)));have:=h y (List.mem_append.2 (.inr (mG hy)));omega
theorem b5m (hS:Ints w A n s)(hA:Ints w B m a)(hmd:m≤d)(hr:Sh.right s=true):
  Calls prog 72 #[.slice A n c,.slice B m d] w (a1m w (a1o s a)):=by
 have HSL:=Hd hS.len;have HAL:=Hd hA.len;have hnle:=hS.le;have hmle:=hA.le;have hn4:n≤4:=by have:=(Sh.right_iff.1 hr).1;have:=HSL.out;omega
 have hw2:IntKind.i64.wrap (2*(n:Int))=2*(n:Int):=IntWalk.i64_in _ ⟨by omega,by omega⟩;by_cases hm:m=2*n
 ·have dm:((m:Int) != 2*(n:Int))=false:=by simp;omega
  have HM:=Hd hm;have hm8:m≤8:=by omega
  have hnm:n≤m:=by omega
  have HRI:=Hd (Sh.right_iff.1 hr).2.1
  have HPI:=Hd (show b0y s (a.take n) (a.drop n)↔∀ x∈a,0≤x∧x≤32 by
   have:=c5h (s:=s) (lo:=a.take n) (hi:=a.drop n) (by rw[List.length_take];have:=HAL.out;have:=HSL.out;omega) (by rw[List.length_drop];have:=HAL.out;have:=HSL.out;omega)
   rwa [List.take_append_drop] at this)
  have HPY:=Hd (show b0y s (a.take n) (a.drop n)→a1o s a=ownP (padS s (a.take n) (a.drop n)) from fun h=>by rw[a1o,HSL.out,iP ⟨by have:=HAL.out;omega,h⟩]);have HPN:=Hd (show ¬ b0y s (a.take n) (a.drop n)→a1o s a=(1,[]) from fun h=>by rw[a1o,HSL.out,iN (fun hc=>h hc.2)]);have h1:=((Sep.nil w).old hA).old hS;clear hm hr hS hA
  go_enter func72,ntmps72
  go_wp2_with fail
  go_loopw [19] (fun iv wr=>∃ k:Nat,iv=.int .i64 k∧k≤m∧(∀(j:Nat) (x:Int),j<k→a[j]?=some x→0≤x∧x≤32)∧Sep w wr [.ints A n s,.ints B m a]) (fun iv _=>m-(intOf iv).toNat)
  case atStart=>exact⟨0,rfl,by omega,fun j x hj=>by omega,h1⟩
  case round =>
   clear h1;obtain⟨k,rfl,hk,hall,hSp⟩:=hrel;have H:=Hd hSp;have HALL:=Hd hall;clear hSp hall;by_cases hlt:k<m
   ·obtain⟨fd,x,hfA,hbf,hx,hcf,hff⟩:=(H.oldInts 1 rfl).at_ hlt;subst hfA;have HX:=Hd hx;have HBAD:=Hd (show ¬(0≤x∧x≤32)→a1o s a=(1,[]) from fun hbad=>HPN.out fun hc=>hbad (HPI.out.1 hc x (mG HX)));clear hx hff;by_cases g1:x<0
    ·have d1:decide (x<0)=true:=by simpa using g1
     have HX:=Hd (HBAD (by omega));clear HBAD;go_wp2;go_ret2;exact a0b HX H.base
    have d1:decide (x<0)=false:=by simpa using g1
    by_cases g2:32<x
    ·have d2:decide (32<x)=true:=by simpa using g2
     have HX:=Hd (HBAD (by omega));clear HBAD;go_wp2;go_ret2;exact a0b HX H.base
    have d2:decide (32<x)=false:=by simpa using g2
    clear HBAD;go_wp2;go_roundw
    case rel=>exact⟨k+1,by go_num,by omega,fun j u hj hu=>by
     rcases Nat.lt_or_ge j k with h' | h'
     ·exact HALL j u h' hu
     ·obtain rfl:j=k:=by omega
      rw[HX.out] at hu;injection hu with hu;omega,H⟩
    case measure=>simp[intOf];omega
   ·obtain rfl:k=m:=by omega
    have HN:=Hd (show ∀ x∈a,0≤x∧x≤32 from fun x hx=>by
     obtain⟨j,hj⟩:=List.getElem?_of_mem hx
     exact HALL j x (by have:=(lL hj);have:=HAL.out;omega) hj)
    have HX:=Hd (HPY (HPI.out.2 HN));clear HPY HPN HPI;obtain⟨P,hP⟩:∃ P,padS s (a.take n) (a.drop n)=P:=⟨_,rfl⟩;rw[hP] at HX;have HPL:=Hd (show P.length=n by rw[←hP,b6c (by rw[List.length_take];have:=HAL.out;have:=HSL.out;omega) (by rw[List.length_drop];have:=HAL.out;have:=HSL.out;have:=HM.out;omega)];exact HSL)
    have HPA:=Hd (show ∀(j:Nat) (x y z:Int),j<n→a[j]?=some x→s[j]?=some y→a[n+j]?=some z→P[j]?=some (x+y+z) from fun j x y z hj hx hy hz=>by
     rw[←hP]
     exact c7k (by rw[List.getElem?_take,iP hj];exact hx) hy (by rw[List.getElem?_drop];exact hz))
    clear hP;have hmk:=a2m underlying31 Tryd.infoInt (n:=n) (by omega);have h1:=H.noughts 3 n (by omega)
    go_upto_region 10 with fail
    generalize wr.alloc (.cells (noughts n) 3)=W at *;generalize hgg:wr.heap.size=g at *;have HGG:=Hd hgg;replace H:=Hd h1;clear h1 hmk hgg
    go_wp2_with fail
    go_loopw [35] (fun iv wr=>∃ q:Nat,iv=.int .i64 q∧q≤n∧Sep w wr [.own 3 (.slice (some ⟨g,0,none⟩) n n) n (mix P (List.replicate n 0) q),.ints A n s,.ints B k a]) (fun iv _=>n-(intOf iv).toNat)
    case atStart=>exact⟨0,rfl,by omega,by rw[b7c];exact H⟩
    case round =>
     clear H;obtain⟨q,rfl,hq,hSp⟩:=hrel;have H:=Hd hSp;clear hSp;by_cases hlq:q<n
     ·obtain⟨sd,y,hsA,hbs,hy,hcs,hfs⟩:=(H.oldInts 1 rfl).at_ hlq;subst hsA;obtain⟨pa,x,hpA,hpb,hx,hcx,hfx⟩:=(H.oldInts 2 rfl).at_ (k:=q) (by omega);subst hpA;obtain⟨pa2,z,hpA2,hpb2,hz,hcz,hfz⟩:=(H.oldInts 2 rfl).at_ (k:=n+q) (by have:=HM.out;omega);injection hpA2 with hpA2
      subst hpA2;have hb1:=HRI.out y (mG hy);have hb2:=HN.out x (mG hx);have hb3:=HN.out z (mG hz);obtain⟨p,hp⟩:∃ p,n+q=p:=⟨_,rfl⟩;have HPP:=Hd hp;have hnq:p<k:=by have:=HM.out;omega
      have hqk:q<k:=by omega
      rw[hp] at hcz;have hO:=H.own 0 rfl;have hfr:=hO.frozen q;have hco:=hO.cell (j:=q) (x:=0) (c1g HPL hlq);have hst:=H.store 0 q (x:=x+y+z) ⟨by omega,by omega⟩ rfl;rw[b7b HPL.out (HPA.out q x y z hlq hx hy hz)] at hst;have HST:=Hd hst;have hw3:IntKind.i64.wrap (x+y)=x+y:=IntWalk.i64_in _ ⟨by omega,by omega⟩;have hw4:IntKind.i64.wrap (x+y+z)=x+y+z:=IntWalk.i64_in _ ⟨by omega,by omega⟩;have hw6:(n:Int)+(q:Int)=(p:Int):=by omega
      have hw7:IntKind.i64.wrap (p:Int)=(p:Int):=IntWalk.i64_in _ ⟨by omega,by omega⟩;clear hp hO hst hx hy hz hfx hfs hfz hb1 hb2 hb3
      go_upto_region 13 with fail
      go_still_tail 17,(by kernel_rfl)
      change wpList _ _ _ _ _ wr.drew;have hco1:wr.drew.cell? ⟨g,q,none⟩=some (.int .i64 0):=hco;have hfr1:wr.drew.frozen? ⟨g,q,none⟩=false:=hfr;go_wp2;go_roundw
      case rel=>exact⟨q+1,by go_num,by omega,HST.drew⟩
      case measure=>simp[intOf];omega
     ·obtain rfl:q=n:=by omega
      have HE:=Hd (show mix P (List.replicate q 0) q=P from c1f HPL);have hS9:=H.out;rw[HE.out] at hS9;have H9:=Hd hS9;have C3:=a8p (c:=q) (H9.ownInts 0 rfl).2.2;clear hS9
      go_wp2_with fail
      refine C3.mono ?_;rintro e2 w2 ⟨⟨v,j,rfl,hO⟩,hb⟩;replace H:=Hd (H.addOwn hb hO);clear C3 hO hb;go_wp2;go_ret2;rw[HX.out];exact⟨⟨_,j,rfl,H.ownS 0 rfl⟩,H.base⟩
 ·have dm:((m:Int) != 2*(n:Int))=true:=by simp;omega
  have HX:=Hd (show a1o s a=(1,[]) by rw[a1o,iN];rintro⟨h1,_⟩;have:=HAL.out;have:=HSL.out;omega);clear hm hA hS hr
  go_enter func72,ntmps72
  go_wp2;go_ret2;exact a0b HX (Below.refl _ _)
theorem b5k (how:Int)(hS:Ints w A n s)(hA:Ints w B m a)(hr:Sh.right s=true):
  Calls prog 74 #[.int .i64 how,.slice A n c,.slice B m d] w (a1m w (a1p how s a)):=by
 have HSL:=Hd hS.len;have HAL:=Hd hA.len;have hnle:=hS.le;have hmle:=hA.le;have hn4:n≤4:=by have:=(Sh.right_iff.1 hr).1;have:=HSL.out;omega
 have C1:=a9c how w
 cases hh:a3w how with
 | false =>
  rw[hh] at C1;have HX:=Hd (show a1p how s a=(1,[]) by rw[a1p,iN];rw[hh];simp);clear hh hA hS hr
  go_enter func74,ntmps74
  go_wp2_with fail
  refine C1.mono ?_;rintro e1 w1 ⟨rfl,rfl⟩;clear C1;go_wp2;go_ret2
  exact a0b HX (Below.refl _ _)
 | true =>
  rw[hh] at C1;have C2:=a9e (c:=d) (S:=A) (d:=c) hA hn4;by_cases hri:a5r a n
  ·rw[b0j hri] at C2;have HX:=Hd (show a1p how s a=ownP (rest a s) by rw[a1p,iP ⟨hh,by rw[HSL.out];exact hri⟩]);have h1:=((Sep.nil w).old hA).old hS;clear hh hri hr hS hA;have hmk:=a4j underlying31 Tryd.infoInt (n:=n) (by omega);have h2:=h1.room 3 n (by omega)
   go_enter func74,ntmps74
   go_wp2_with fail
   refine C1.mono ?_;rintro e1 w1 ⟨rfl,rfl⟩;clear C1
   go_wp2_with fail
   refine C2.mono ?_;rintro e1 w1 ⟨rfl,rfl⟩;clear C2
   go_upto_region 4 with fail
   generalize w.alloc (.cells (noughts n) 3)=W at *;have H:=Hd h2;clear h1 h2 hmk
   go_wp2_with fail
   go_loopw [25,8] (fun iv lv wr=>∃(k:Nat) (lx:Value),lx=lv∧iv=.int .i64 k∧k≤n∧Sep w wr [.own 3 lx (rest a (s.take k)).length (rest a (s.take k)),.ints A n s,.ints B m a]) (fun iv _ _=>n-(intOf iv).toNat)
   case atStart=>exact⟨0,_,rfl,rfl,by omega,H⟩
   case round =>
    clear H;obtain⟨k,lx,rfl,rfl,hk,hSp⟩:=hrel;have H:=Hd hSp;clear hSp;by_cases hlt:k<n
    ·obtain⟨sd,y,hsA,hbs,hy,hcs,hfs⟩:=(H.oldInts 1 rfl).at_ hlt;subst hsA;have HR:=Hd (c2e (axes:=a) hy);have HF:=Hd hfs;have C3:=a6g (c:=d) (k:Int) (H.oldInts 2 rfl)
     have hlen:(rest a (s.take k)).length≤k:=by
      have:=a5n a (s.take k) 0;rw[List.length_take] at this;exact Nat.le_trans this (Nat.min_le_left _ _)
     clear hy hfs;by_cases hmem:(k:Int)∈a
     ·rw[decide_eq_true hmem] at C3;have HR2:=Hd (show rest a (s.take (k+1))=rest a (s.take k) by rw[HR.out,iP hmem,List.append_nil]);clear hmem hlen
      go_wp2_with fail
      refine C3.mono ?_;rintro e1 w1 ⟨rfl,rfl⟩;clear C3;go_wp2;go_roundw
      case rel=>exact⟨k+1,_,rfl,by go_num,by omega,by rw[HR2.out];exact H⟩
      case measure=>simp[intOf];omega
     ·rw[decide_eq_false hmem] at C3;have HR2:=Hd (show rest a (s.take (k+1))=rest a (s.take k)++[y] by rw[HR.out,iN hmem]);clear hmem
      go_wp2_with fail
      refine C3.mono ?_;rintro e1 w1 ⟨rfl,rfl⟩;clear C3
      go_wp2_with (at_builtin;refine a4e rfl (.tmp 34) (.tmp 36) 31 3 rfl underlying31 Tryd.infoInt H.out 0 rfl rfl y HF.out _ rfl ?c1 ?_)
      case c1=>omega
      intro v' w' h';have H8:=Hd h';clear h' hlen;go_wp2;go_roundw
      case rel=>exact⟨k+1,_,rfl,by go_num,by omega,by rw[HR2.out,List.length_append,List.length_singleton];exact H8⟩
      case measure=>simp[intOf];omega
    ·obtain rfl:k=n:=by omega
     have hS9:=H.out;rw[List.take_of_length_le (by have:=HSL.out;omega)] at hS9;obtain⟨A9,c9,hv,_,_,_⟩:=(hS9.ownS 0 rfl).form;subst hv;have H9:=Hd hS9;have C3:=a8p (c:=c9) (H9.ownInts 0 rfl).2.2;clear hS9
     go_wp2_with fail
     refine C3.mono ?_;rintro e2 w2 ⟨⟨v,j,rfl,hO⟩,hb⟩;have H2:=Hd (H9.addOwn hb hO);clear C3 hO hb;go_wp2;go_ret2;rw[HX.out];exact⟨⟨_,j,rfl,H2.ownS 0 rfl⟩,H2.base⟩
  ·rw[a8r hri] at C2;have HX:=Hd (show a1p how s a=(1,[]) by rw[a1p,iN];rintro⟨_,h⟩;rw[HSL.out] at h;exact hri h);clear hh hri hr hS hA
   go_enter func74,ntmps74
   go_wp2_with fail
   refine C1.mono ?_;rintro e1 w1 ⟨rfl,rfl⟩;clear C1
   go_wp2_with fail
   refine C2.mono ?_;rintro e1 w1 ⟨rfl,rfl⟩;clear C2;go_wp2;go_ret2;exact a0b HX (Below.refl _ _)
end Go.Proofs.YtdcmanhgekjhgaaDoor
