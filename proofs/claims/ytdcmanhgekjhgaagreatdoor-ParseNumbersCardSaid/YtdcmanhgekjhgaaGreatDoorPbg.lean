import Derived.Test.YtdcmanhgekjhgaaGreatDoorPbf
set_option maxRecDepth 100000
set_option maxHeartbeats 12800000
namespace Go.Proofs.YtdcmanhgekjhgaaGreatDoor
open Go.RowKit Go.Proofs.Tryz
variable {A B:Option Addr} {L:List (List Int)} {a l s t:List Int} {ax c d m n:Nat} {w:World} {z:Int}
theorem c8n (hS:Ints w A n s)(hA:Ints w B m a)(hmd:m≤d)(hr:Sh.right s=true):
  Calls prog 144 #[.slice A n c,.slice B m d] w (a3v w (a5a s a)):=by
 have HSL:=Hd hS.len;have HAL:=Hd hA.len;have hnle:=hS.le;have hmle:=hA.le;have hn4:n≤4:=by have:=(Sh.right_iff.1 hr).1;have:=HSL.out;omega
 have hw2:IntKind.i64.wrap (2*(n:Int))=2*(n:Int):=IntWalk.i64_in _ ⟨by omega,by omega⟩;by_cases hm:m=2*n
 ·have dm:((m:Int) != 2*(n:Int))=false:=by simp;omega
  have HM:=Hd hm;have hnm:n≤m:=by omega
  have hdf:m-n=n:=by omega
  have HRI:=Hd (Sh.right_iff.1 hr).2.1;have hsl1:=a7i hA hnm hmd;have hsl2:=b0m hA hnm hmd;rw[hdf] at hsl2;have hI1:=hA.take hnm;have hI2:=hA.dropA hnm hmd;rw[hdf] at hI2;obtain⟨A2,hA2⟩:∃ A2,dropA B d n=A2:=⟨_,rfl⟩;rw[hA2] at hsl2 hI2;obtain⟨fl,hfl⟩:∃ fl,a.take n=fl:=⟨_,rfl⟩;obtain⟨zl,hzl⟩:∃ zl,a.drop n=zl:=⟨_,rfl⟩;rw[hfl] at hI1;rw[hzl] at hI2;have HFL:=Hd hI1.len;have HZL:=Hd hI2.len;have HPY:=Hd (show a4m s fl zl=true→a5a s a=(0,zl) from fun h=>by rw[a5a,HSL.out,hfl,hzl,iP ⟨by have:=HAL.out;omega,h⟩]);have HPN:=Hd (show ¬ a4m s fl zl=true→a5a s a=(1,[]) from fun h=>by rw[a5a,HSL.out,hfl,hzl,iN (fun hc=>h hc.2)]);have h1:=(((Sep.nil w).old hI2).old hI1).old hS;clear hA2 hfl hzl hm hr hI1 hI2 hS hA hdf
  go_enter func144,ntmps144
  go_upto_region 3 with fail
  go_quiet (fail)
  have H:=Hd (h1.drewN nq);generalize w.drewN nq=w1 at *;clear h1 hsl1 hsl2
  go_wp2_with fail
  go_loopw [26] (fun iv wr=>∃ k:Nat,iv=.int .i64 k∧k≤n∧(∀(j:Nat) (x b y:Int),j<k→s[j]?=some x→fl[j]?=some b→zl[j]?=some y→0≤b∧0≤y∧b≤x∧y≤x-b)∧Sep w wr [.ints A n s,.ints B n fl,.ints A2 n zl]) (fun iv _=>n-(intOf iv).toNat)
  case atStart=>exact⟨0,rfl,by omega,fun j x b y hj=>by omega,H⟩
  case round =>
   clear H;obtain⟨k,rfl,hk,hall,hSp⟩:=hrel;have H:=Hd hSp;have HALL:=Hd hall;clear hSp hall;by_cases hlt:k<n
   ·obtain⟨sd,x,hsA,hbs,hx,hcs,hfs⟩:=(H.oldInts 0 rfl).at_ hlt;subst hsA;obtain⟨fd,b,hfA,hbf,hb,hcf,hff⟩:=(H.oldInts 1 rfl).at_ hlt;subst hfA;obtain⟨zd,y,hzA,hbz,hy,hcz,hfz⟩:=(H.oldInts 2 rfl).at_ hlt;subst hzA;obtain⟨hx0,hx1⟩:=HRI.out x (mG hx);obtain⟨hff1,hff2⟩:=hff;obtain⟨hfz1,hfz2⟩:=hfz;have HE:=Hd (⟨hx,hb,hy⟩:_∧_∧_);clear hx hb hy hfs;have HBAD:=Hd (show ¬(0≤b∧0≤y∧b≤x∧y≤x-b)→a5a s a=(1,[]) from fun hbad=>HPN.out fun hc=>hbad (b2w hc HE.out.1 HE.out.2.1 HE.out.2.2));by_cases g1:b<0
    ·have d1:decide (b<0)=true:=by simpa using g1
     have HX:=Hd (HBAD (by omega));clear HBAD
     go_wp2_with fail
     go_quiet (fail)
     go_wp2;go_ret2;exact a0i HX (H.drewN _).base
    have d1:decide (b<0)=false:=by simpa using g1
    by_cases g2:y<0
    ·have d2:decide (y<0)=true:=by simpa using g2
     have HX:=Hd (HBAD (by omega));clear HBAD
     go_wp2_with fail
     go_quiet (fail)
     go_wp2;go_ret2;exact a0i HX (H.drewN _).base
    have d2:decide (y<0)=false:=by simpa using g2
    have hw:IntKind.i64.wrap (x-b)=x-b:=IntWalk.i64_in _ ⟨by omega,by omega⟩;by_cases g3:x-b<y
    ·have d3:decide (x-b<y)=true:=by simpa using g3
     have HX:=Hd (HBAD (by omega));clear HBAD
     go_wp2_with fail
     go_quiet (fail)
     go_wp2;go_ret2;exact a0i HX (H.drewN _).base
    have d3:decide (x-b<y)=false:=by simpa using g3
    clear HBAD
    go_wp2_with fail
    go_quiet (fail)
    go_wp2;go_roundw
    case rel=>exact⟨k+1,by go_num,by omega,fun j u v t hj hu hv ht=>by
     rcases Nat.lt_or_ge j k with h' | h'
     ·exact HALL j u v t h' hu hv ht
     ·obtain rfl:j=k:=by omega
      rw[HE.out.1] at hu;rw[HE.out.2.1] at hv;rw[HE.out.2.2] at ht;injection hu with hu;injection hv with hv;injection ht with ht
      omega,H.drewN _⟩
    case measure=>simp[intOf];omega
   ·obtain rfl:k=n:=by omega
    have HX:=Hd (HPY (b6z (by have:=HSL.out;have:=HFL.out;omega) (by have:=HSL.out;have:=HZL.out;omega) fun j x b y hx hb hy=>HALL.out j x b y (by have:=(lL hx);have:=HSL.out;omega) hx hb hy));have C3:=a5t (c:=d-k) (H.oldInts 2 rfl) (by omega)
    go_wp2_with fail
    refine C3.mono ?_;rintro e2 w2 ⟨⟨v,rfl,hO⟩,hb⟩;have H2:=Hd (H.addOwn hb hO);clear C3 hO hb;go_wp2;go_ret2;exact a3k HX (H2.ownS 0 rfl) H2.base
 ·have dm:((m:Int) != 2*(n:Int))=true:=by simp;omega
  have HX:=Hd (show a5a s a=(1,[]) by rw[a5a,iN];rintro⟨h1,_⟩;have:=HAL.out;have:=HSL.out;omega);clear hm hA hS hr
  go_enter func144,ntmps144
  go_wp2;go_ret2;exact a0i HX (Below.refl _ _)
theorem e2r {lo hi:List Int}(h1:lo.length=s.length)(h2:hi.length=s.length):b6c s lo hi↔∀ x∈lo++hi,0≤x∧x≤32:=by
 constructor
 ·intro h x hx;rcases List.mem_append.1 hx with hx|hx
  ·obtain⟨k,hk⟩:=List.getElem?_of_mem hx;obtain⟨y,hy⟩:=a0h (l:=hi) (k:=k) (by have:=(lL hk);omega);have:=h.2.2 k x y hk hy;omega
  ·obtain⟨k,hk⟩:=List.getElem?_of_mem hx;obtain⟨y,hy⟩:=a0h (l:=lo) (k:=k) (by have:=(lL hk);omega);have:=h.2.2 k y x hy hk;omega
 ·intro h;refine⟨h1,h2,fun k x y hx hy=>?_⟩;have:=h x (List.mem_append.2 (.inl (mG hx)));have:=h y (List.mem_append.2 (.inr (mG hy)));omega
theorem c8m (hS:Ints w A n s)(hA:Ints w B m a)(hmd:m≤d)(hr:Sh.right s=true):
  Calls prog 145 #[.slice A n c,.slice B m d] w (a3v w (a4p s a)):=by
 have HSL:=Hd hS.len;have HAL:=Hd hA.len;have hnle:=hS.le;have hmle:=hA.le;have hn4:n≤4:=by have:=(Sh.right_iff.1 hr).1;have:=HSL.out;omega
 have hw2:IntKind.i64.wrap (2*(n:Int))=2*(n:Int):=IntWalk.i64_in _ ⟨by omega,by omega⟩;by_cases hm:m=2*n
 ·have dm:((m:Int) != 2*(n:Int))=false:=by simp;omega
  have HM:=Hd hm;have hm8:m≤8:=by omega
  have hnm:n≤m:=by omega
  have HRI:=Hd (Sh.right_iff.1 hr).2.1
  have HPI:=Hd (show b6c s (a.take n) (a.drop n)↔∀ x∈a,0≤x∧x≤32 by
   have:=e2r (s:=s) (lo:=a.take n) (hi:=a.drop n) (by rw[List.length_take];have:=HAL.out;have:=HSL.out;omega) (by rw[List.length_drop];have:=HAL.out;have:=HSL.out;omega)
   rwa [List.take_append_drop] at this)
  have HPY:=Hd (show b6c s (a.take n) (a.drop n)→a4p s a=ownP (padS s (a.take n) (a.drop n)) from fun h=>by rw[a4p,HSL.out,iP ⟨by have:=HAL.out;omega,h⟩]);have HPN:=Hd (show ¬ b6c s (a.take n) (a.drop n)→a4p s a=(1,[]) from fun h=>by rw[a4p,HSL.out,iN (fun hc=>h hc.2)]);have h1:=((Sep.nil w).old hA).old hS;clear hm hr hS hA
  go_enter func145,ntmps145
  go_wp2_with fail
  go_loopw [19] (fun iv wr=>∃ k:Nat,iv=.int .i64 k∧k≤m∧(∀(j:Nat) (x:Int),j<k→a[j]?=some x→0≤x∧x≤32)∧Sep w wr [.ints A n s,.ints B m a]) (fun iv _=>m-(intOf iv).toNat)
  case atStart=>exact⟨0,rfl,by omega,fun j x hj=>by omega,h1⟩
  case round =>
   clear h1;obtain⟨k,rfl,hk,hall,hSp⟩:=hrel;have H:=Hd hSp;have HALL:=Hd hall;clear hSp hall;by_cases hlt:k<m
   ·obtain⟨fd,x,hfA,hbf,hx,hcf,hff⟩:=(H.oldInts 1 rfl).at_ hlt;subst hfA;have HX:=Hd hx;have HBAD:=Hd (show ¬(0≤x∧x≤32)→a4p s a=(1,[]) from fun hbad=>HPN.out fun hc=>hbad (HPI.out.1 hc x (mG HX)));clear hx hff;by_cases g1:x<0
    ·have d1:decide (x<0)=true:=by simpa using g1
     have HX:=Hd (HBAD (by omega));clear HBAD;go_wp2;go_ret2;exact a0i HX H.base
    have d1:decide (x<0)=false:=by simpa using g1
    by_cases g2:32<x
    ·have d2:decide (32<x)=true:=by simpa using g2
     have HX:=Hd (HBAD (by omega));clear HBAD;go_wp2;go_ret2;exact a0i HX H.base
    have d2:decide (32<x)=false:=by simpa using g2
    clear HBAD;go_wp2;go_roundw
    case rel=>exact⟨k+1,by go_num,by omega,fun j u hj hu=>by
     rcases Nat.lt_or_ge j k with h' | h'
     ·exact HALL j u h' hu
     ·obtain rfl:j=k:=by omega
      rw[HX.out] at hu;injection hu with hu;omega,H⟩
    case measure=>simp[intOf];omega
   ·obtain rfl:k=m:=by omega
    have HN:=Hd (show ∀ x∈a,0≤x∧x≤32 from fun x hx=>by
     obtain⟨j,hj⟩:=List.getElem?_of_mem hx
     exact HALL j x (by have:=(lL hj);have:=HAL.out;omega) hj)
    have HX:=Hd (HPY (HPI.out.2 HN));clear HPY HPN HPI;obtain⟨P,hP⟩:∃ P,padS s (a.take n) (a.drop n)=P:=⟨_,rfl⟩;rw[hP] at HX;have HPL:=Hd (show P.length=n by rw[←hP,a9d (by rw[List.length_take];have:=HAL.out;have:=HSL.out;omega) (by rw[List.length_drop];have:=HAL.out;have:=HSL.out;have:=HM.out;omega)];exact HSL)
    have HPA:=Hd (show ∀(j:Nat) (x y z:Int),j<n→a[j]?=some x→s[j]?=some y→a[n+j]?=some z→P[j]?=some (x+y+z) from fun j x y z hj hx hy hz=>by
     rw[←hP]
     exact c9d (by rw[List.getElem?_take,iP hj];exact hx) hy (by rw[List.getElem?_drop];exact hz))
    clear hP;have hmk:=a2z underlying25 Tryz.infoInt (n:=n) (by omega);have h1:=H.noughts 3 n (by omega)
    go_upto_region 10 with fail
    generalize wr.alloc (.cells (noughts n) 3)=W at *;generalize hgg:wr.heap.size=g at *;have HGG:=Hd hgg;replace H:=Hd h1;clear h1 hmk hgg
    go_wp2_with fail
    go_loopw [35] (fun iv wr=>∃ q:Nat,iv=.int .i64 q∧q≤n∧Sep w wr [.own 3 (.slice (some ⟨g,0,none⟩) n n) n (mix P (List.replicate n 0) q),.ints A n s,.ints B k a]) (fun iv _=>n-(intOf iv).toNat)
    case atStart=>exact⟨0,rfl,by omega,by rw[a4v];exact H⟩
    case round =>
     clear H;obtain⟨q,rfl,hq,hSp⟩:=hrel;have H:=Hd hSp;clear hSp;by_cases hlq:q<n
     ·obtain⟨sd,y,hsA,hbs,hy,hcs,hfs⟩:=(H.oldInts 1 rfl).at_ hlq;subst hsA;obtain⟨pa,x,hpA,hpb,hx,hcx,hfx⟩:=(H.oldInts 2 rfl).at_ (k:=q) (by omega);subst hpA;obtain⟨pa2,z,hpA2,hpb2,hz,hcz,hfz⟩:=(H.oldInts 2 rfl).at_ (k:=n+q) (by have:=HM.out;omega);injection hpA2 with hpA2
      subst hpA2;have hb1:=HRI.out y (mG hy);have hb2:=HN.out x (mG hx);have hb3:=HN.out z (mG hz);obtain⟨p,hp⟩:∃ p,n+q=p:=⟨_,rfl⟩;have HPP:=Hd hp;have hnq:p<k:=by have:=HM.out;omega
      have hqk:q<k:=by omega
      rw[hp] at hcz;have hO:=H.own 0 rfl;have hfr:=hO.frozen q;have hco:=hO.cell (j:=q) (x:=0) (a8e HPL hlq);have hst:=H.store 0 q (x:=x+y+z) ⟨by omega,by omega⟩ rfl;rw[a5n HPL.out (HPA.out q x y z hlq hx hy hz)] at hst;have HST:=Hd hst;have hw3:IntKind.i64.wrap (x+y)=x+y:=IntWalk.i64_in _ ⟨by omega,by omega⟩;have hw4:IntKind.i64.wrap (x+y+z)=x+y+z:=IntWalk.i64_in _ ⟨by omega,by omega⟩;have hw6:(n:Int)+(q:Int)=(p:Int):=by omega
      have hw7:IntKind.i64.wrap (p:Int)=(p:Int):=IntWalk.i64_in _ ⟨by omega,by omega⟩;clear hp hO hst hx hy hz hfx hfs hfz hb1 hb2 hb3
      go_upto_region 13 with fail
      go_still_tail 17,(by kernel_rfl)
      change wpList _ _ _ _ _ wr.drew;have hco1:wr.drew.cell? ⟨g,q,none⟩=some (.int .i64 0):=hco;have hfr1:wr.drew.frozen? ⟨g,q,none⟩=false:=hfr;go_wp2;go_roundw
      case rel=>exact⟨q+1,by go_num,by omega,HST.drew⟩
      case measure=>simp[intOf];omega
     ·obtain rfl:q=n:=by omega
      have HE:=Hd (show mix P (List.replicate q 0) q=P from a8d HPL);have hS9:=H.out;rw[HE.out] at hS9;have H9:=Hd hS9;have C3:=b6i (c:=q) (H9.ownInts 0 rfl).2.2;clear hS9
      go_wp2_with fail
      refine C3.mono ?_;rintro e2 w2 ⟨⟨v,j,rfl,hO⟩,hb⟩;replace H:=Hd (H.addOwn hb hO);clear C3 hO hb;go_wp2;go_ret2;rw[HX.out];exact⟨⟨_,j,rfl,H.ownS 0 rfl⟩,H.base⟩
 ·have dm:((m:Int) != 2*(n:Int))=true:=by simp;omega
  have HX:=Hd (show a4p s a=(1,[]) by rw[a4p,iN];rintro⟨h1,_⟩;have:=HAL.out;have:=HSL.out;omega);clear hm hA hS hr
  go_enter func145,ntmps145
  go_wp2;go_ret2;exact a0i HX (Below.refl _ _)
theorem c8k (how:Int)(hS:Ints w A n s)(hA:Ints w B m a)(hr:Sh.right s=true):
  Calls prog 147 #[.int .i64 how,.slice A n c,.slice B m d] w (a3v w (a4x how s a)):=by
 have HSL:=Hd hS.len;have HAL:=Hd hA.len;have hnle:=hS.le;have hmle:=hA.le;have hn4:n≤4:=by have:=(Sh.right_iff.1 hr).1;have:=HSL.out;omega
 have C1:=b7e how w
 cases hh:a5g how with
 | false =>
  rw[hh] at C1;have HX:=Hd (show a4x how s a=(1,[]) by rw[a4x,iN];rw[hh];simp);clear hh hA hS hr
  go_enter func147,ntmps147
  go_wp2_with fail
  refine C1.mono ?_;rintro e1 w1 ⟨rfl,rfl⟩;clear C1;go_wp2;go_ret2
  exact a0i HX (Below.refl _ _)
 | true =>
  rw[hh] at C1;have C2:=b7j (c:=d) (S:=A) (d:=c) hA hn4;by_cases hri:a8v a n
  ·rw[b9f hri] at C2;have HX:=Hd (show a4x how s a=ownP (rest a s) by rw[a4x,iP ⟨hh,by rw[HSL.out];exact hri⟩]);have h1:=((Sep.nil w).old hA).old hS;clear hh hri hr hS hA;have hmk:=a9g underlying25 Tryz.infoInt (n:=n) (by omega);have h2:=h1.room 3 n (by omega)
   go_enter func147,ntmps147
   go_wp2_with fail
   refine C1.mono ?_;rintro e1 w1 ⟨rfl,rfl⟩;clear C1
   go_wp2_with fail
   refine C2.mono ?_;rintro e1 w1 ⟨rfl,rfl⟩;clear C2
   go_upto_region 4 with fail
   generalize w.alloc (.cells (noughts n) 3)=W at *;have H:=Hd h2;clear h1 h2 hmk
   go_wp2_with fail
   go_loopw [25,8] (fun iv lv wr=>∃(k:Nat) (lx:Value),lx=lv∧iv=.int .i64 k∧k≤n∧Sep w wr [.own 3 lx (rest a (s.take k)).length (rest a (s.take k)),.ints A n s,.ints B m a]) (fun iv _ _=>n-(intOf iv).toNat)
   case atStart=>exact⟨0,_,rfl,rfl,by omega,H⟩
   case round =>
    clear H;obtain⟨k,lx,rfl,rfl,hk,hSp⟩:=hrel;have H:=Hd hSp;clear hSp;by_cases hlt:k<n
    ·obtain⟨sd,y,hsA,hbs,hy,hcs,hfs⟩:=(H.oldInts 1 rfl).at_ hlt;subst hsA;have HR:=Hd (b9d (axes:=a) hy);have HF:=Hd hfs;have C3:=b2z (c:=d) (k:Int) (H.oldInts 2 rfl)
     have hlen:(rest a (s.take k)).length≤k:=by
      have:=a4t a (s.take k) 0;rw[List.length_take] at this;exact Nat.le_trans this (Nat.min_le_left _ _)
     clear hy hfs;by_cases hmem:(k:Int)∈a
     ·rw[decide_eq_true hmem] at C3;have HR2:=Hd (show rest a (s.take (k+1))=rest a (s.take k) by rw[HR.out,iP hmem,List.append_nil]);clear hmem hlen
      go_wp2_with fail
      refine C3.mono ?_;rintro e1 w1 ⟨rfl,rfl⟩;clear C3;go_wp2;go_roundw
      case rel=>exact⟨k+1,_,rfl,by go_num,by omega,by rw[HR2.out];exact H⟩
      case measure=>simp[intOf];omega
     ·rw[decide_eq_false hmem] at C3;have HR2:=Hd (show rest a (s.take (k+1))=rest a (s.take k)++[y] by rw[HR.out,iN hmem]);clear hmem
      go_wp2_with fail
      refine C3.mono ?_;rintro e1 w1 ⟨rfl,rfl⟩;clear C3
      go_wp2_with (at_builtin;refine a0o rfl (.tmp 34) (.tmp 36) 25 3 rfl underlying25 Tryz.infoInt H.out 0 rfl rfl y HF.out _ rfl ?c1 ?_)
      case c1=>omega
      intro v' w' h';have H8:=Hd h';clear h' hlen;go_wp2;go_roundw
      case rel=>exact⟨k+1,_,rfl,by go_num,by omega,by rw[HR2.out,List.length_append,List.length_singleton];exact H8⟩
      case measure=>simp[intOf];omega
    ·obtain rfl:k=n:=by omega
     have hS9:=H.out;rw[List.take_of_length_le (by have:=HSL.out;omega)] at hS9;obtain⟨A9,c9,hv,_,_,_⟩:=(hS9.ownS 0 rfl).form;subst hv;have H9:=Hd hS9;have C3:=b6i (c:=c9) (H9.ownInts 0 rfl).2.2;clear hS9
     go_wp2_with fail
     refine C3.mono ?_;rintro e2 w2 ⟨⟨v,j,rfl,hO⟩,hb⟩;have H2:=Hd (H9.addOwn hb hO);clear C3 hO hb;go_wp2;go_ret2;rw[HX.out];exact⟨⟨_,j,rfl,H2.ownS 0 rfl⟩,H2.base⟩
  ·rw[b6n hri] at C2;have HX:=Hd (show a4x how s a=(1,[]) by rw[a4x,iN];rintro⟨_,h⟩;rw[HSL.out] at h;exact hri h);clear hh hri hr hS hA
   go_enter func147,ntmps147
   go_wp2_with fail
   refine C1.mono ?_;rintro e1 w1 ⟨rfl,rfl⟩;clear C1
   go_wp2_with fail
   refine C2.mono ?_;rintro e1 w1 ⟨rfl,rfl⟩;clear C2;go_wp2;go_ret2;exact a0i HX (Below.refl _ _)
theorem c2y (how:Int)(hS:Ints w A n s)(hA:Ints w B m a)(hr:Sh.right s=true):
  Calls prog 149 #[.int .i64 how,.slice A n c,.slice B m d] w (a3v w (a1r how s a)):=by
 have HSL:=Hd hS.len;have HAL:=Hd hA.len;have hnle:=hS.le;have hmle:=hA.le;have hn4:n≤4:=by have:=(Sh.right_iff.1 hr).1;have:=HSL.out;omega
 have C1:=b7e how w;by_cases hm:m=3
 ·have dm:((m:Int) != 3)=false:=by simp;omega
  have HM:=Hd hm
  cases hh:a5g how with
  | false =>
   rw[hh] at C1;have HX:=Hd (show a1r how s a=(1,[]) by rw[a1r,iN];rw[hh];simp);clear hh hA hS hr hm
   go_enter func149,ntmps149
   go_wp2_with fail
   refine C1.mono ?_;rintro e1 w1 ⟨rfl,rfl⟩;clear C1;go_wp2;go_ret2
   exact a0i HX (Below.refl _ _)
  | true =>
   rw[hh] at C1;obtain⟨pa,x,hpA,hpb,hx,hcx,hfx⟩:=hA.at_ (k:=0) (by omega);obtain⟨pa1,y,hpA1,hpb1,hy,hcy,hfy⟩:=hA.at_ (k:=1) (by omega);obtain⟨pa2,z,hpA2,hpb2,hz,hcz,hfz⟩:=hA.at_ (k:=2) (by omega);subst hpA;injection hpA1 with hpA1;subst hpA1
   injection hpA2 with hpA2;subst hpA2
   rw[d4w] at hcx;simp[Addr.add] at hcy;simp[Addr.add] at hcz
   have HPY:=Hd (show b5e s x=true→b4a y z=true→a1r how s a=(0,winS s x.toNat y z) from fun h1 h2=>by
    rw[a1r,d6c hx,d6d hy,d6d hz,iP ⟨by have:=HAL.out;have:=HM.out;omega,hh,h1,h2⟩])
   have HPN:=Hd (show ¬(b5e s x=true∧b4a y z=true)→a1r how s a=(1,[]) from fun h=>by
    rw[a1r,d6c hx,d6d hy,d6d hz,iN (fun hc=>h ⟨hc.2.2.1,hc.2.2.2⟩)])
   have hj0:(0:Int)<m:=by omega
   have hj1:(1:Int)<m:=by omega
   have hj2:(2:Int)<m:=by omega
   have hl0:0<m:=by omega
   have hl1:1<m:=by omega
   have hl2:2<m:=by omega
   have HFY:=Hd hfy;have HFZ:=Hd hfz;have HRR:=Hd hr;have h1:=(Sep.nil w).old hS;clear hx hy hz hfx hfy hfz hm hh hA hS hr;have hax:b5e s x=axF x n:=by rw[b5e,axF,HSL.out]
   have C2:=fun w=>b1c x (A:=A) (n:=n) (c:=c) w
   cases hax2:axF x n with
   | false =>
    simp only[hax2] at C2;have HX:=Hd (HPN (fun hc=>by rw[hax,hax2] at hc;cases hc.1));clear hax hax2
    go_enter func149,ntmps149
    go_wp2_with fail
    refine C1.mono ?_;rintro e1 w1 ⟨rfl,rfl⟩;clear C1
    go_upto_region 3 with fail
    go_quiet (fail)
    have H:=Hd (h1.drewN nq);generalize w.drewN nq=w1 at *;clear h1 hcx hcy hcz
    go_wp2_with fail
    refine(C2 _).mono ?_;rintro e1 w1 ⟨rfl,rfl⟩;clear C2;go_wp2;go_ret2
    exact a0i HX H.base
   | true =>
    simp only[hax2] at C2;obtain⟨hx0,hxn⟩:=b2f.1 hax2;obtain⟨x,rfl⟩:=eZ hx0;have hxn2:x<n:=by omega
    have HAX:=Hd (show b5e s (x:Int)=true by rw[hax,hax2]);clear hax hax2;have HBAD:=Hd (show ¬(1≤y∧y≤32∧1≤z∧z≤32)→a1r how s a=(1,[]) from fun hb=>HPN.out (fun hc=>hb (b4b.1 hc.2)))
    go_enter func149,ntmps149
    go_wp2_with fail
    refine C1.mono ?_;rintro e1 w1 ⟨rfl,rfl⟩;clear C1
    go_upto_region 3 with fail
    go_quiet (fail)
    have H:=Hd (h1.drewN nq);generalize w.drewN nq=w1 at *;clear h1 hcx hcy hcz
    go_wp2_with fail
    refine(C2 _).mono ?_;rintro e1 w1 ⟨rfl,rfl⟩;clear C2;by_cases g1:y<1
    ·have d1:decide (y<1)=true:=by simpa using g1
     have HX:=Hd (HBAD (by omega));clear HBAD;go_wp2;go_ret2;exact a0i HX H.base
    have d1:decide (y<1)=false:=by simpa using g1
    by_cases g2:32<y
    ·have d2:decide (32<y)=true:=by simpa using g2
     have HX:=Hd (HBAD (by omega));clear HBAD;go_wp2;go_ret2;exact a0i HX H.base
    have d2:decide (32<y)=false:=by simpa using g2
    by_cases g3:z<1
    ·have d3:decide (z<1)=true:=by simpa using g3
     have HX:=Hd (HBAD (by omega));clear HBAD;go_wp2;go_ret2;exact a0i HX H.base
    have d3:decide (z<1)=false:=by simpa using g3
    by_cases g4:32<z
    ·have d4:decide (32<z)=true:=by simpa using g4
     have HX:=Hd (HBAD (by omega));clear HBAD;go_wp2;go_ret2;exact a0i HX H.base
    have d4:decide (32<z)=false:=by simpa using g4
    have HX:=Hd (HPY HAX (b4b.2 ⟨by omega,by omega,by omega,by omega⟩));clear HBAD HPY HPN;rw[Int.toNat_natCast] at HX;have C3:=a5t (c:=c) (H.oldInts 0 rfl) (by omega)
    go_wp2_with fail
    refine C3.mono ?_;rintro e2 w2 ⟨⟨v,rfl,hO⟩,hb⟩;obtain⟨g,c2,hv,hOw⟩:=hO.own (by omega);subst hv;replace H:=Hd (H.addOwn hb hO);clear C3 hO hOw hb;obtain⟨ps,q,hpS,hpb3,hq,hcq,hfq⟩:=(H.oldInts 1 rfl).at_ (k:=x) hxn2;subst hpS;have HQ:=Hd hq;have hO:=H.own 0 rfl;have hfr:=hO.frozen x;have hco:=hO.cell (j:=x) hq;have C4:=fun w=>d9q q y z hfq HFY HFZ w
    have hqq:s.getD x 0=q:=d6d hq;have hbn:=(Sh.right_iff.1 HRR).2.1 q (mG hq);have hbw:=c4k (n:=q) (wide:=y) (apart:=z);have hst:=H.store 0 x (x:=winN q y z) (by have:=hbw.2 hbn.1;exact⟨by omega,by omega⟩) rfl;have HST:=Hd hst;have HX2:=Hd (show a1r how s a=(0,s.set x (winN q y z)) by rw[HX.out,winS,hqq]);clear hO hst hq hfq hqq hbn hbw
    go_wp2_with fail
    refine(C4 _).mono ?_;rintro e4 w4 ⟨rfl,rfl⟩;clear C4;go_wp2;go_ret2;exact a3k HX2 (HST.ownS 0 rfl) HST.base
 ·have dm:((m:Int) != 3)=true:=by simp;omega
  have HX:=Hd (show a1r how s a=(1,[]) by rw[a1r,iN];rintro⟨h1,_⟩;have:=HAL.out;omega);clear hm hA hS hr C1
  go_enter func149,ntmps149
  go_wp2;go_ret2;exact a0i HX (Below.refl _ _)
theorem c8j (hL:Lils w A n (s::L))(hc:n≤c)(hs4:s.length≤4):
  Calls prog 150 #[.slice A n c] w (a3v w (a3m (s::L))):=by
 obtain⟨A2,hsl,hL2⟩:=c2a hL hc;obtain⟨a,B,m,c0,rfl,hab,hca,hmc,hI⟩:=hL.head;have HNL:=Hd (show L.length=n-1 from hL2.1);have hn9:=hL.2.1;have hn1:1≤n:=by have:=hL.1;rw[List.length_cons] at this;omega
 have HL2:=Hd hL2;have HI:=Hd hI;have hm4:m≤4:=by have:=hI.len;omega
 have h1:=Sep.nil w;have hj0:(0:Int)<n:=by omega
 have hl0:0<n:=by omega
 have HCA:=Hd hca;clear hL hL2 hI hca
 go_enter func150,ntmps150
 go_wp2_with fail
 go_loopw [9] (fun iv wr=>∃ k:Nat,iv=.int .i64 k∧k≤n-1∧(∀(j:Nat) (x:List Int),j<k→L[j]?=some x→x=s)∧Sep w wr []) (fun iv _=>n-(intOf iv).toNat)
 case atStart=>exact⟨0,rfl,by omega,fun j x hj=>by omega,h1⟩
 case round =>
  clear h1;obtain⟨k,rfl,hk,hall,hSp⟩:=hrel;have H:=Hd hSp;have HALL:=Hd hall;clear hSp hall;by_cases hlt:k<n-1
  ·obtain⟨x,hx⟩:∃ x,L[k]?=some x:=gE (by have:=HNL.out;omega);obtain⟨a2,B2,m2,c2,hA2,hb2,hca2,hmc2,hI2⟩:=HL2.out.2.2 k x hx;subst hA2;have hcx:=H.oC hca2 (a1y hb2);have hc0:=H.oldCell hab HCA.out;have HX:=Hd hx;have C1:=b3v (c:=c2) (d:=c0) (H.oldI hI2) (H.oldI HI);clear hx hca2 hI2
   cases he:(x==s) with
   | false =>
    rw[he] at C1
    have HQ:=Hd (show a3m (s::L)=(13,[]) by
     rw[a3m,iN];intro h;have h9:=h x (List.mem_cons_of_mem _ (mG HX));have h9:x=s:=h9
     rw[h9] at he;simp at he)
    clear he
    go_wp2_with fail
    refine C1.mono ?_;rintro e1 w1 ⟨rfl,rfl⟩;clear C1;go_wp2;go_ret2
    exact a0i HQ H.base
   | true =>
    rw[he] at C1;have HE:=Hd (show x=s from eq_of_beq he);clear he
    go_wp2_with fail
    refine C1.mono ?_;rintro e1 w1 ⟨rfl,rfl⟩;clear C1 hcx hc0;go_wp2;go_roundw
    case rel=>exact⟨k+1,by go_num,by omega,fun j y hj hy=>by
     rcases Nat.lt_or_ge j k with h' | h'
     ·exact HALL j y h' hy
     ·obtain rfl:j=k:=by omega
      rw[HX.out] at hy;injection hy with hy;rw[←hy];exact HE,H⟩
    case measure=>simp[intOf];omega
  ·have HQ:=Hd (show a3m (s::L)=(0,s) by
    rw[a3m,iP]
    ·rfl
    ·intro x hx
     show x=s
     rcases List.mem_cons.1 hx with rfl|hx
     ·rfl
     ·obtain⟨j,hj⟩:=List.getElem?_of_mem hx
      exact HALL j x (by have:=(lL hj);have:=HNL.out;omega) hj)
   have hc0:=H.oldCell hab HCA.out;have C3:=a5t (c:=c0) (H.oldI HI) (by omega)
   go_wp2_with fail
   refine C3.mono ?_;rintro e2 w2 ⟨⟨v,rfl,hO⟩,hb⟩;have H2:=Hd (H.addOwn hb hO);clear C3 hO hb hc0;go_wp2;go_ret2;exact a3k HQ (H2.ownS 0 rfl) H2.base
theorem d9b:(l.set ax z).take ax=l.take ax:=by
 apply List.ext_getElem?;intro i;rw[List.getElem?_take,List.getElem?_take]
 split
 ·rw[List.getElem?_set,iN (by omega)]
 ·rfl
theorem d5m:(l.set ax z).drop (ax+1)=l.drop (ax+1):=by
 apply List.ext_getElem?;intro i;rw[List.getElem?_drop,List.getElem?_drop,List.getElem?_set,iN (by omega)]
theorem e4u (h:t.length=s.length):c0c s ax t↔t.take ax=s.take ax∧t.drop (ax+1)=s.drop (ax+1):=by
 constructor
 ·intro hf
  have key:∀ i,i≠ax→t[i]?=s[i]? := fun i hi=>by
   rcases Nat.lt_or_ge i s.length with hl|hl
   ·obtain⟨x,hx⟩:=a0h (l:=t) (k:=i) (by omega);obtain⟨y,hy⟩:=a0h hl;rw[hx,hy,hf.2 i x y hi hx hy]
   ·rw[List.getElem?_eq_none (by omega),List.getElem?_eq_none hl]
  constructor
  ·apply List.ext_getElem?;intro i;rw[List.getElem?_take,List.getElem?_take]
   split
   ·exact key i (by omega)
   ·rfl
  ·apply List.ext_getElem?;intro i;rw[List.getElem?_drop,List.getElem?_drop];exact key _ (by omega)
 ·rintro⟨h1,h2⟩;refine⟨h,fun k x y hk hx hy=>?_⟩;rcases Nat.lt_or_ge k ax with hl|hl
  ·have e:=congrArg (fun l:List Int=>l[k]?) h1;simp only[List.getElem?_take,if_pos hl] at e;rw[hx,hy] at e;injection e
  ·have e:=congrArg (fun l:List Int=>l[k-(ax+1)]?) h2;simp only[List.getElem?_drop] at e;rw[show ax+1+(k-(ax+1))=k by omega,hx,hy] at e;injection e
theorem d9h {l:List (List Int)}{i:Nat}{x:Int}(h:l[i]?=some t)(g:t[ax]?=some x):totL ax (l.take (i+1))=totL ax (l.take i)+x:=by
 rw[totL,totL,List.take_add_one,h,List.foldl_append];simp[List.getD_eq_getElem?_getD,g]
theorem c8l (hL:Lils w A n (s::L))(hc:n≤c)(hA:Ints w B m a)(hR:∀ x∈s::L,Sh.right x=true):
  Calls prog 146 #[.slice A n c,.slice B m d] w (a3v w (a2p (s::L) a)):=by
 obtain⟨a0,B0,ns,c0,rfl,hab,hca,hmc,hI⟩:=hL.head;have HAL:=Hd hA.len;have HSL:=Hd hI.len;have hmle:=hA.le;have hn9:=hL.2.1;have hn1:1≤n:=by have:=hL.1;rw[List.length_cons] at this;omega
 have hns4:ns≤4:=by have:=(Sh.right_iff.1 (hR s (by simp))).1;have:=HSL.out;omega
 have hj0:(0:Int)<n:=by omega
 have hl0:0<n:=by omega
 have h1:=Sep.nil w;have HHD:=Hd (show(s::L).getD 0 []=s from rfl);by_cases hm:m=1
 ·have dm:((m:Int) != 1)=false:=by simp;omega
  have HM:=Hd hm;obtain⟨pa,x,hpA,hpb,hx,hcx,hfx⟩:=hA.at_ (k:=0) (by omega);subst hpA;rw[d4w] at hcx;have hk0:(0:Int)<m:=by omega
  have hk1:0<m:=by omega
  have HX0:=Hd (d6c hx);clear hx hfx hm hA;have C2:=fun q=>b1c x (A:=B0) (n:=ns) (c:=c0) (w.drewN q)
  cases hax:axF x ns with
  | false =>
   simp only[hax] at C2
   have HX:=Hd (show a2p (s::L) a=(1,[]) by
    rw[a2p,HHD.out,HX0.out,iN];rintro⟨_,h1,h2⟩
    rw[b2f.2 ⟨h1,by have:=HSL.out;omega⟩] at hax;cases hax)
   have HC2:=Hd C2;clear hax hL hI C2
   go_enter func146,ntmps146
   go_upto_region 1 with fail
   go_quiet (first|(go_at_call 162;with_reducible exact a3p (HC2.out _)))
   go_wp2;go_ret2
   exact a0i HX (h1.drewN _).base
  | true =>
   simp only[hax] at C2;obtain⟨hx0,hxn⟩:=b2f.1 hax;obtain⟨ax,rfl⟩:=eZ hx0;have hxn2:ax<ns:=by omega
   have HPY:=Hd (show b6s ax (s::L)→a2p (s::L) a=ownP (s.set ax (totL ax (s::L))) from fun h=>by
    rw[a2p,HHD.out,HX0.out,iP ⟨by have:=HAL.out;have:=HM.out;omega,hx0,by have:=HSL.out;omega⟩,Int.toNat_natCast,iP h])
   have HPN:=Hd (show ¬ b6s ax (s::L)→a2p (s::L) a=(13,[]) from fun h=>by
    rw[a2p,HHD.out,HX0.out,iP ⟨by have:=HAL.out;have:=HM.out;omega,hx0,by have:=HSL.out;omega⟩,Int.toNat_natCast,iN h])
   obtain⟨A2,hsl,hL2⟩:=c2a hL hc;have HL2:=Hd hL2;have HNL:=Hd (show L.length=n-1 from hL2.1);have HI:=Hd hI;have HC2:=Hd C2;have HR:=Hd hR;clear hax hL hI hL2 C2 hx0 hxn
   go_enter func146,ntmps146
   go_upto_region 1 with fail
   go_quiet (first|(go_at_call 162;with_reducible exact a3p (HC2.out _)))
   have H:=Hd (h1.drewN nq);generalize w.drewN nq=w1 at *;have hca1:=H.oldCell hab hca;have hcx1:=H.oldCell hpb hcx;have HCA:=Hd hca;have HCX:=Hd hcx;clear h1 HC2 hca hcx;have H0:=Hd H.drew
   go_upto_region 3 with fail
   clear hca1 hcx1;have i0:=H0.oldCell hab HCA.out;have i1:=H0.oldCell hpb HCX.out;refine wp_region_held_drew (S:=(fun w'=>w'.cell? a0=some (.slice B0 ns c0)∧w'.cell? pa=some (.int .i64 (ax:Int)))) (by kernel_rfl) ?_ (fun hq_=>?_)
   ·exact⟨i0,i1⟩
   refine zV 0 hq_ ?_;refine zV 1 hq_ ?_;refine zV 2 hq_ ?_;refine zV 4 hq_ ?_;refine zV 5 hq_ ?_;refine zV 6 hq_ ?_;refine e1 3 fun K hK=>?_
   first|(refine effU ?_ ?_;(focus rfl))|(go_simp;(go_at_call 161;refine(a5t (c:=c0) (H0.oldI HI) (by omega)).mono ?_;rintro e3 w3 ⟨⟨v3,rfl,hO3⟩,hb3⟩;have H3:=Hd (H0.addOwn hb3 hO3);have m0:=H3.oldCell hab HCA.out;have m1:=H3.oldCell hpb HCX.out;clear hb3 hO3);go_wp2_with fail)
   refine zX hK (fun hq_=>?_) ⟨m0,m1⟩;refine zV 7 hq_ ?_;refine zV 8 hq_ ?_;refine dN ?_;obtain⟨g,ct,hv,hOw⟩:=(H3.ownS 0 rfl).own (by omega);subst hv;have hcap:=hOw.cap;clear hOw m0 m1 i0 i1 H H0
   go_wp2_with fail
   go_loopw [33] (fun iv wr=>∃(k:Nat) (T:Int),iv=.int .i64 k∧k≤n-1∧T=totL ax ((s::L).take (k+1))∧0≤T∧T≤32*((k:Int)+1)∧(∀(j:Nat) (x:List Int),j<k→L[j]?=some x→c0c s ax x)∧Sep w wr [.own 3 (.slice (some ⟨g,0,none⟩) ns ct) ns (s.set ax T)]) (fun iv _=>n-(intOf iv).toNat)
   case atStart =>
    obtain⟨z,hz⟩:=a0h (l:=s) (k:=ax) (by have:=HSL.out;omega);have hb:=(Sh.right_iff.1 (HR s (by simp))).2.1 z (mG hz);have hT:totL ax ((s::L).take (0+1))=z:=by simp[totL,List.getD_eq_getElem?_getD,hz]
    exact⟨0,z,rfl,by omega,hT.symm,hb.1,by have:=hb.2;omega,fun j x hj=>by omega,by rw[e3y hz];exact H3⟩
   case round =>
    clear H3;obtain⟨k,T,rfl,hk,hT,hT0,hT1,hall,hSp⟩:=hrel;have H:=Hd hSp;have HALL:=Hd hall;have HT:=Hd hT;clear hSp hall hT;by_cases hlt:k<n-1
    ·obtain⟨y,hy⟩:∃ y,L[k]?=some y:=gE (by have:=HNL.out;omega);obtain⟨a2,B2,m2,c2,hA2,hb2,hca2,hmc2,hI2⟩:=HL2.out.2.2 k y hy;subst hA2;have hcy:=H.oC hca2 (a1y hb2);have HY:=Hd hy;have HYM:=Hd (List.mem_cons_of_mem s (mG hy));have HYL:=Hd hI2.len;have HI2:=Hd (H.oldI hI2);clear hy hca2 hI2;by_cases hmn:m2=ns
     ·subst hmn;have hsl1:=a7i HI2 (k:=ax) (by omega) hmc2;have hsl2:=a7i (H.ownInts 0 rfl).2.2 (k:=ax) (by omega) hcap;obtain⟨A4,hsl3,hI4⟩:=b3r ((ax:Int)+1) (k:=ax+1) (by omega) HI2 (by omega) (by omega) hmc2;obtain⟨A5,hsl4,hI5⟩:=b3r ((ax:Int)+1) (k:=ax+1) (by omega) (H.ownInts 0 rfl).2.2 (by omega) (by omega) hcap;have hI6:=HI2.take (k:=ax) (by omega);have hI7:=(H.ownInts 0 rfl).2.2.take (k:=ax) (by omega);rw[d9b] at hI7;rw[d5m] at hI5;have C3:=fun q=>b3v (c:=c2) (d:=ct) (hI6.drewN q) (hI7.drewN q)
      have C4:=fun q=>b3v (c:=c2-(ax+1)) (d:=ct-(ax+1)) (hI4.drewN q) (hI5.drewN q)
      have hwk:IntKind.i64.wrap ((ax:Int)+1)=(ax:Int)+1:=IntWalk.i64_in _ ⟨by omega,by omega⟩;have HFI:=Hd (e4u (s:=s) (t:=y) (ax:=ax) (by have:=HYL.out;have:=HSL.out;omega));have HNO:=Hd (show ¬ c0c s ax y→a2p (s::L) a=(13,[]) from fun h=>HPN.out (fun hf=>h (hf y HYM)));have hax1:ax+1≤m2:=by omega
      have hax2:ax+1≤c2:=by omega
      have hax3:ax+1≤ct:=by omega
      have hax4:ax≤c2:=by omega
      have hax5:ax≤ct:=by omega
      clear hI4 hI5 hI6 hI7
      cases RP:(y.take ax==s.take ax) with
      | false =>
       simp only[RP] at C3;replace C3:=Hd C3;have HX:=Hd (HNO (fun hf=>by have:=(HFI.out.1 hf).1;rw[this] at RP;simp at RP));clear C4 RP
       go_wp2_with fail
       go_quiet (first|(go_at_call 164;with_reducible exact a3p (C3.out _)))
       go_wp2;go_ret2
       exact a0i HX (H.drewN _).base
      | true =>
       simp only[RP] at C3;replace C3:=Hd C3;have HRP:=Hd (eq_of_beq RP);clear RP
       cases RD:(y.drop (ax+1)==s.drop (ax+1)) with
       | false =>
        simp only[RD] at C4;replace C4:=Hd C4;have HX:=Hd (HNO (fun hf=>by have:=(HFI.out.1 hf).2;rw[this] at RD;simp at RD));clear RD
        go_wp2_with fail
        go_quiet (first|(go_at_call 164;with_reducible exact a3p (C3.out _))|(go_at_call 164;with_reducible exact a3p (C4.out _)))
        go_wp2;go_ret2
        exact a0i HX (H.drewN _).base
       | true =>
        simp only[RD] at C4;replace C4:=Hd C4;have HFT:=Hd (HFI.out.2 ⟨HRP,eq_of_beq RD⟩);clear RD
        go_wp2_with fail
        go_quiet (first|(go_at_call 164;with_reducible exact a3p (C3.out _))|(go_at_call 164;with_reducible exact a3p (C4.out _)))
        clear C3 C4 hsl1 hsl2 hsl3 hsl4 hwk hcy;replace H:=Hd (H.drewN nq);replace HI2:=Hd (HI2.drewN nq);generalize wr.drewN nq=w8 at *;obtain⟨py,z,hpY,hpb2,hz,hcz,hfz⟩:=HI2.at_ (k:=ax) (by omega);subst hpY;have hO:=H.own 0 rfl;have hfr:=hO.frozen ax;have hco:=hO.cell (j:=ax) (x:=T) (by rw[List.getElem?_set,iP rfl,iP (by have:=HSL.out;omega)]);have hzb:=(Sh.right_iff.1 (HR y HYM)).2.1 z (mG hz);obtain⟨hz0,hz1⟩:=hzb;have HT2:=Hd (show T+z=totL ax ((s::L).take (k+1+1)) by rw[d9h (l:=s::L) (i:=k+1) (t:=y) HY.out hz,HT.out]);have hst:=H.store 0 ax (x:=T+z) ⟨by omega,by omega⟩ rfl;rw[List.set_set] at hst;have HST:=Hd hst;have hw3:IntKind.i64.wrap (T+z)=T+z:=IntWalk.i64_in _ ⟨by omega,by omega⟩;clear hO hst hz hfz
        go_upto_region 9 with fail
        go_still_tail 10,(by kernel_rfl)
        change wpList _ _ _ _ _ w8.drew;have hco1:w8.drew.cell? ⟨g,ax,none⟩=some (.int .i64 T):=hco;have hfr1:w8.drew.frozen? ⟨g,ax,none⟩=false:=hfr;go_wp2;go_roundw
        case rel=>exact⟨k+1,T+z,by go_num,by omega,HT2,by omega,by omega,fun j u hj hu=>by
         rcases Nat.lt_or_ge j k with h' | h'
         ·exact HALL j u h' hu
         ·obtain rfl:j=k:=by omega
          rw[HY.out] at hu;injection hu with hu;rw[←hu];exact HFT,HST.drew⟩
        case measure=>simp[intOf];omega
     ·have dmn:((m2:Int) != (ns:Int))=true:=by simp;omega
      have HX:=Hd (HPN (fun hf=>hmn (by have:=(hf y HYM).1;have h9:y.length=s.length:=this;have:=HYL.out;have:=HSL.out;omega)));clear hmn
      go_wp2_with fail
      go_quiet (fail)
      go_wp2;go_ret2;exact a0i HX (H.drewN _).base
    ·have HFA:=Hd (show b6s ax (s::L) from fun x hx=>by
      show c0c s ax x
      rcases List.mem_cons.1 hx with rfl|hx
      ·exact⟨rfl,fun k u v hk hu hv=>by rw[hu] at hv;injection hv⟩
      ·obtain⟨j,hj⟩:=List.getElem?_of_mem hx
       exact HALL j x (by have:=(lL hj);have:=HNL.out;omega) hj)
     have HX:=Hd (show a2p (s::L) a=ownP (s.set ax T) by
      rw[HPY.out HFA.out,HT.out,List.take_of_length_le (by rw[List.length_cons];have:=HNL.out;omega)])
     have C3:=b6i (c:=ct) (H.ownInts 0 rfl).2.2
     go_wp2_with fail
     refine C3.mono ?_;rintro e2 w2 ⟨⟨v,j,rfl,hO⟩,hb⟩;have H2:=Hd (H.addOwn hb hO);clear C3 hO hb;go_wp2;go_ret2;rw[HX.out];exact⟨⟨_,j,rfl,H2.ownS 0 rfl⟩,H2.base⟩
 ·have dm:((m:Int) != 1)=true:=by simp;omega
  have HX:=Hd (show a2p (s::L) a=(1,[]) by rw[a2p,iN];rintro⟨h1,_⟩;have:=HAL.out;omega);clear hm hA hL hI
  go_enter func146,ntmps146
  go_upto_region 1 with fail
  go_quiet (fail)
  go_wp2;go_ret2;exact a0i HX (h1.drewN _).base
end Go.Proofs.YtdcmanhgekjhgaaGreatDoor
