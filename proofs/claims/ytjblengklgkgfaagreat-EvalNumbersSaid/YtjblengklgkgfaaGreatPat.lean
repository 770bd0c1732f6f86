import Derived.Laws.Cover4
import Derived.Test.YtjblengklgkgfaaGreatPas
set_option maxRecDepth 100000
set_option maxHeartbeats 12800000
namespace Go.Proofs.YtjblengklgkgfaaGreat
open Go.RowKit Go.Proofs.Tryz
variable {G:a3n} {j:Nat} {nm:List Int} {s:ByteArray} {v:Value} {w:World} {x:Int}
theorem Tryz.infoInt9:(prog.info? 3).map (fun i=>(i.zero,i.size,i.bytes))=some (some (.int .i64 0),1,8):=by kernel_rfl
def b4a (nm:List Int) (x:Int):ByteArray:=if 0≤x∧x<nm.length then Utf8.encode (nm.getD x.toNat 0) else⟨#[46]⟩
def b2f (nm spec:List Int):ByteArray:=spec.foldl (fun o x=>o++b4a nm x) ByteArray.empty
theorem b6l (r:Int)(hs:s.size≤17592186044000):
  Calls prog 149 #[.string s,.int .i32 r] w fun e w'=>e=.returned (.int .i64 (a5l (a0k s) r))∧Below w.heap.size w w':=by
 have C1:=a8b w s hs;obtain⟨l,hl⟩:∃ l,a0k s=l:=⟨_,rfl⟩;rw[hl] at C1 ⊢;clear hl hs
 go_enter func149,ntmps149
 go_wp2_with fail
 refine C1.mono ?_;rintro e1 w1 ⟨⟨v,n,rfl,hO⟩,hb⟩;obtain⟨A,c,rfl,hc,hI,_⟩:=hO.form;have HB:=Hd hb;have H1:=Hd hI.len;have hle:=hI.le;clear C1 hO hb
 go_wp2_with fail
 go_loop [10] (fun i=>∃ k:Nat,k≤n∧i=.int .i64 k∧r∉l.take k) (fun i=>n-(intOf i).toNat)
 case atStart=>exact⟨0,Nat.zero_le _,rfl,by simp⟩
 case round =>
  obtain⟨k,hk,rfl,hnm⟩:=hrel;have HN:=Hd hnm;clear hnm;by_cases hlt:k<n
  ·obtain⟨ad,y,rfl,hbl,hy,hcy,hf⟩:=hI.at_ hlt;have HY:=Hd hy;clear hy;by_cases hxy:y=r
   ·subst hxy;have HX:=Hd (c3u HY HN);go_wp2;go_ret;exact⟨by rw[HX.out];rfl,HB⟩
   ·have d:(y==r)=false:=by simpa using hxy
    have HXY:=Hd hxy;clear hxy;go_wp2;go_round
    case rel=>exact⟨k+1,by omega,by go_num,by
     rw[List.take_add_one,HY.out];intro hm;rcases List.mem_append.1 hm with hm|hm
     ·exact HN hm
     ·exact HXY (List.mem_singleton.1 hm).symm⟩
    case measure=>simp[intOf];omega
  ·have HX:=Hd (show a5l l r = -1 from c1x (by have h1:=HN.out;rwa [List.take_of_length_le (by have:=H1.out;omega)] at h1));go_wp2;go_ret;exact⟨by rw[HX.out];rfl,HB⟩
theorem c3h (nn:Int)(hs:s.size≤17592186044000):
  Calls prog 148 #[.string s,.int .i64 nn] w fun e w'=>e=.returned (.bool (a9a (a0k s) nn))∧Below w.heap.size w w':=by
 have C1:=a8b w s hs;have HS:=Hd hs;obtain⟨l,hl⟩:∃ l,a0k s=l:=⟨_,rfl⟩;rw[hl] at C1 ⊢;have HL:=Hd hl;clear hl hs
 go_enter func148,ntmps148
 go_wp2_with fail
 refine C1.mono ?_;rintro e1 w1 ⟨⟨v,n,rfl,hO⟩,hb⟩;obtain⟨A,c,rfl,hc,hI,_⟩:=hO.form;have HB:=Hd hb;have H1:=Hd hI.len;have hle:=hI.le;have HI:=Hd hI;clear C1 hO hb hI;by_cases g0:nn<0
 ·have dg0:decide (nn<0)=true:=by simpa using g0
  have HX:=Hd (a5o (l:=l) (n:=nn) (fun h=>by have:=h.1;omega));go_wp2;go_ret;exact⟨a0b HX.symm,HB⟩
 have dg0:decide (nn<0)=false:=by simpa using g0
 by_cases g1:3<nn
 ·have dg1:decide (3<nn)=true:=by simpa using g1
  have HX:=Hd (a5o (l:=l) (n:=nn) (fun h=>by have:=h.2.1;omega));go_wp2;go_ret;exact⟨a0b HX.symm,HB⟩
 have dg1:decide (3<nn)=false:=by simpa using g1
 by_cases g2:¬(n:Int)=nn
 ·have dg2:((n:Int) != nn)=true:=by simpa using g2
  have HX:=Hd (a5o (l:=l) (n:=nn) (fun h=>g2 (by have:=h.2.2.1;rw[H1.out] at this;exact this)));go_wp2;go_ret;exact⟨a0b HX.symm,HB⟩
 have dg2:((n:Int) != nn)=false:=by simpa using g2
 obtain rfl:(n:Int)=nn:=by simpa using g2
 clear g2
 go_wp2_with fail
 go_loopw [24] (fun i wr=>∃ k:Nat,k≤n∧i=.int .i64 k∧(∀ j,j<k→c7m l j)∧Below w1.heap.size w1 wr) (fun i _=>n-(intOf i).toNat)
 case atStart=>exact⟨0,Nat.zero_le _,rfl,fun j hj=>by omega,Below.refl _ _⟩
 case round =>
  obtain⟨k,hk,rfl,hall,hB⟩:=hrel;have HALL:=Hd hall;have HBW:=Hd hB;clear hall;have HIW:=Hd (HI.below hB);clear hB;by_cases hlt:k<n
  ·obtain⟨ad,x,rfl,hbl,hx,hcx,hf⟩:=HIW.at_ hlt;have HX:=Hd hx;have HBAD:=Hd (show ¬(¬ badR x∧a5l l x=k)→a9a l n=false from fun hb=>a5o fun h=>hb (h.2.2.2 k x HX));clear hx;by_cases b0:x<33
   ·have db0:decide (x<33)=true:=by simpa using b0
    have HR:=Hd (HBAD (fun h=>h.1 (by unfold badR;omega)));go_wp2;go_ret;exact⟨a0b HR.symm,a1m HB HBW⟩
   have db0:decide (x<33)=false:=by simpa using b0
   by_cases b1:x=65533
   ·have db1:(x==65533)=true:=by simpa using b1
    have HR:=Hd (HBAD (fun h=>h.1 (by unfold badR;omega)));clear b1;go_wp2;go_ret;exact⟨a0b HR.symm,a1m HB HBW⟩
   have db1:(x==65533)=false:=by simpa using b1
   by_cases b2:x=46
   ·have db2:(x==46)=true:=by simpa using b2
    have HR:=Hd (HBAD (fun h=>h.1 (by unfold badR;omega)));clear b2;go_wp2;go_ret;exact⟨a0b HR.symm,a1m HB HBW⟩
   have db2:(x==46)=false:=by simpa using b2
   by_cases b3:x=45
   ·have db3:(x==45)=true:=by simpa using b3
    have HR:=Hd (HBAD (fun h=>h.1 (by unfold badR;omega)));clear b3;go_wp2;go_ret;exact⟨a0b HR.symm,a1m HB HBW⟩
   have db3:(x==45)=false:=by simpa using b3
   by_cases b4:x=40
   ·have db4:(x==40)=true:=by simpa using b4
    have HR:=Hd (HBAD (fun h=>h.1 (by unfold badR;omega)));clear b4;go_wp2;go_ret;exact⟨a0b HR.symm,a1m HB HBW⟩
   have db4:(x==40)=false:=by simpa using b4
   by_cases b5:x=41
   ·have db5:(x==41)=true:=by simpa using b5
    have HR:=Hd (HBAD (fun h=>h.1 (by unfold badR;omega)));clear b5;go_wp2;go_ret;exact⟨a0b HR.symm,a1m HB HBW⟩
   have db5:(x==41)=false:=by simpa using b5
   have HNB:=Hd (show ¬ badR x by unfold badR;omega);clear b1 b2 b3 b4 b5;have CF:=b6l (w:=wr) (s:=s) x HS;rw[HL.out] at CF
   go_wp2_with fail
   refine CF.mono ?_;rintro e3 w3 ⟨rfl,hb3⟩;have HB3:=Hd hb3;clear CF hb3;obtain⟨f,hf2⟩:∃ f,a5l l x=f:=⟨_,rfl⟩;have HF:=Hd hf2;rw[hf2];clear hf2;by_cases hfk:f=(k:Int)
   ·have dfk:(f != (k:Int))=false:=by simp[hfk]
    have HFK:=Hd hfk;clear hfk;go_wp2;go_roundw
    case rel=>exact⟨k+1,by omega,by go_num,fun j hj=>by
     rcases Nat.lt_or_ge j k with h' | h'
     ·exact HALL j h'
     ·obtain rfl:j=k:=by omega
      intro y hy;rw[HX.out] at hy;injection hy with hy;subst hy
      exact⟨HNB,HF.trans HFK⟩,a1m HBW HB3⟩
    case measure=>simp[intOf];omega
   ·have dfk:(f != (k:Int))=true:=by simpa using hfk
    have HR:=Hd (HBAD (fun h=>hfk (HF.symm.trans h.2)));clear hfk;go_wp2;go_ret;exact⟨a0b HR.symm,a1m (a1m HB HBW) HB3⟩
  ·have HR:=Hd (b1y (l:=l) (n:=(n:Int)) ⟨by omega,by omega,by rw[H1.out],fun i x hx=>HALL.out i (by have:=(lL hx);have:=H1.out;omega) x hx⟩);go_wp2;go_ret;exact⟨a0b HR.symm,a1m HB HBW⟩
theorem c4v {t:ByteArray}(rank:Int)(hs:s.size≤17592186044000)(ht:t.size≤17592186044000):
  Calls prog 138 #[.string s,.string t,.int .i64 rank] w fun e w'=>(∃ v m,e=.returned (.tuple #[v,.bool (b0e (a0k s) (a0k t) rank).2.1,.int .i64 (b0e (a0k s) (a0k t) rank).2.2])∧OwnS w' w.heap.size 3 v m (b0e (a0k s) (a0k t) rank).1)∧Below w.heap.size w w':=by
 have C1:=a8b w t ht;have HS:=Hd hs;obtain⟨nm,hnm⟩:∃ l,a0k s=l:=⟨_,rfl⟩;obtain⟨l,hl⟩:∃ l,a0k t=l:=⟨_,rfl⟩;rw[hl] at C1 ⊢;rw[hnm];have HNM:=Hd hnm;clear hnm hl hs ht
 go_enter func138,ntmps138
 go_wp2_with fail
 refine C1.mono ?_;rintro e1 w1 ⟨⟨v,n,rfl,hO⟩,hb⟩;obtain⟨A,c,rfl,hc,hI,_⟩:=hO.form;have HB:=Hd hb;have H1:=Hd hI.len;have HI:=Hd hI;clear C1 hO hb hI;by_cases g0:16<n
 ·have dg0:decide (16<n)=true:=by simpa using g0
  have HX:=Hd (b5c (nm:=nm) (l:=l) (rank:=rank) (by rw[H1.out];exact g0));go_wp2;go_ret3;rw[HX.out];exact⟨⟨_,0,rfl,OwnS.nil_ _ _ _⟩,HB⟩
 have dg0:decide (16<n)=false:=by simpa using g0
 have hn16:n≤16:=by omega
 have HN16:=Hd (show l.length≤16 by rw[H1.out];exact hn16);clear g0
 go_wp2_with fail
 go_loopw [22,10] (fun i vs wr=>∃(k m:Nat) (out:List Int),k≤n∧i=.int .i64 k∧m≤k∧OwnS wr w1.heap.size 3 vs m out∧a5e nm [] l=a5e nm out (l.drop k)∧Below w1.heap.size w1 wr) (fun i _ _=>n-(intOf i).toNat)
 case atStart=>exact⟨0,0,[],Nat.zero_le _,rfl,Nat.le_refl _,OwnS.nil_ _ _ _,rfl,Below.refl _ _⟩
 case round =>
  obtain⟨k,m,out,hk,rfl,hm,hO,hnl,hB⟩:=hrel;have HNL:=Hd hnl;have HBW:=Hd hB;have HIW:=Hd (HI.below hB);have HOW:=Hd hO;have HOL:=Hd hO.len;clear hnl hB;obtain⟨Ao,co,hv,hco,_,_⟩:=hO.form;subst hv;clear hO;by_cases hlt:k<n
  ·obtain⟨ad,x,rfl,hbl,hx,hcx,hf⟩:=HIW.at_ hlt;have HX:=Hd hx;clear hx;by_cases b0:x=32
   ·subst b0;have HQ:=Hd (HNL.trans (b8w (out:=out) HX));go_wp2;go_roundw
    case rel=>exact⟨k+1,m,out,by omega,by go_num,by omega,HOW,HQ,HBW⟩
    case measure=>simp[intOf];omega
   have db0:(x==32)=false:=by simpa using b0
   by_cases b1:x=46
   ·subst b1;have HQ:=Hd (HNL.trans (b9z (out:=out) HX));clear b0
    go_wp2_with (at_builtin;refine a3f rfl (.tmp 47) (.tmp 49) 22 3 rfl underlying22 Tryz.infoInt9 w1.heap.size _ m out rfl HOW.out (by have:=HBW.out.size;exact this) (-1) ⟨by omega,by omega⟩ _ rfl ?c1 ?_)
    case c1=>omega
    intro v' w' h1 h2 h3;have G1:=Hd h1;have G2:=Hd h2;clear h1 h2 h3;go_wp2;go_roundw
    case rel=>exact⟨k+1,m+1,out++[-1],by omega,by go_num,by omega,G1,HQ,HBW.trans G2⟩
    case measure=>simp[intOf];omega
   have db1:(x != 46)=true:=by simpa using b1
   have CF:=b6l (w:=wr) (s:=s) x HS;rw[HNM.out] at CF
   go_wp2_with fail
   refine CF.mono ?_;rintro e3 w3 ⟨rfl,hb3⟩;have HB3:=Hd hb3;have HO3:=Hd (HOW.below hb3);have HBX:=Hd (a1m HBW hb3);clear CF hb3;obtain⟨f,hf2⟩:∃ f,a5l nm x=f:=⟨_,rfl⟩;have HF:=Hd hf2;have hfb:=c3v nm x;have hnmb:nm.length≤17592186044000:=by rw[←HNM.out];exact Nat.le_trans (b2j s) HS
   rw[hf2] at hfb ⊢;clear hf2;have HB0:=Hd b0;have HB1:=Hd b1;clear b0 b1;by_cases b2:f<0
   ·have db2:decide (f<0)=true:=by simpa using b2
    have HR:=Hd (b7t (rank:=rank) HN16 (HNL.trans (c1a HX HB0 HB1 (by rw[HF.out];exact b2))));go_wp2;go_ret3;rw[HR.out];exact⟨⟨_,0,rfl,OwnS.nil_ _ _ _⟩,a1m HB HBX⟩
   have db2:decide (f<0)=false:=by simpa using b2
   have HB2:=Hd (show ¬ a5l nm x<0 by rw[HF.out];exact b2);obtain⟨w4,rfl⟩:∃ w4:World,w4=w3:=⟨_,rfl⟩;have HI4:=Hd (show Ints w4 Ao m out from by obtain⟨A9,c9,hv9,_,h9,_⟩:=HO3.form;injection hv9 with q1 q2 q3;subst q1;exact h9);have hd3:decide (k<n)=true:=by simpa using hlt
   go_wp2_with fail
   go_loopw [37] (fun i wr=>∃ j:Nat,j≤m∧i=.int .i64 j∧f∉out.take j∧w4=wr) (fun i _=>m-(intOf i).toNat)
   case atStart=>exact⟨0,Nat.zero_le _,rfl,by simp,rfl⟩
   case round =>
    obtain⟨j,hj,rfl,hni,rfl⟩:=hrel;have HNI:=Hd hni;clear hni;by_cases hlj:j<m
    ·obtain⟨oa,y,rfl,_,hy,hcy,_⟩:=HI4.at_ hlj;have HY:=Hd hy;clear hy;by_cases hyf:y=f
     ·have dyf:(y==f)=true:=by simp[hyf]
      have HR:=Hd (b7t (rank:=rank) HN16 (HNL.trans (b9f HX HB0 HB1 (by have:=HB2.out;omega) (by rw[HF.out,←hyf];exact mG HY))));clear hyf;go_wp2;go_ret3;rw[HR.out];exact⟨⟨_,0,rfl,OwnS.nil_ _ _ _⟩,a1m HB HBX⟩
     ·have dyf:(y==f)=false:=by simpa using hyf
      have HYF:=Hd hyf;clear hyf;go_wp2;go_roundw
      case rel=>exact⟨j+1,by omega,by go_num,by
       rw[List.take_add_one,HY.out];intro hm2;rcases List.mem_append.1 hm2 with hm2|hm2
       ·exact HNI hm2
       ·exact HYF (List.mem_singleton.1 hm2).symm,by trivial⟩
      case measure=>simp[intOf];omega
    ·have HNO:=Hd (show a5l nm x∉out by rw[HF.out];have h1:=HNI.out;rwa [List.take_of_length_le (by have:=HOL.out;omega)] at h1);have HQ:=Hd (HNL.trans (c1k HX HB0 HB1 (by have:=HB2.out;omega) HNO))
     go_wp2_with (at_builtin;refine a3f rfl (.tmp 47) (.tmp 49) 22 3 rfl underlying22 Tryz.infoInt9 w1.heap.size _ m out rfl HO3.out (by have:=HBX.out.size;exact this) (f) ⟨by omega,by omega⟩ _ rfl ?c1 ?_)
     case c1=>omega
     intro v' w' h1 h2 h3;have G1:=Hd h1;have G2:=Hd h2;clear h1 h2 h3;go_wp2;go_roundw
     case rel=>exact⟨k+1,m+1,out++[f],by omega,by go_num,by omega,G1,by rw[←HF.out];exact HQ,HBX.trans G2⟩
     case measure=>simp[intOf];omega
  ·have HE:=Hd (HNL.trans (c5l (nm:=nm) (out:=out) (by have:=H1.out;omega)));by_cases m0:m=0
   ·have dm0:((m:Int)==0)=true:=by simp[m0]
    have HR:=Hd (b0b (rank:=rank) HN16 (HE.trans (by rw[List.eq_nil_of_length_eq_zero (HOL.trans m0)])));clear m0;go_wp2;go_ret3;rw[HR.out];exact⟨⟨_,0,rfl,OwnS.nil_ _ _ _⟩,a1m HB HBW⟩
   have dm0:((m:Int)==0)=false:=by simpa using m0
   have HNE:=Hd (show out≠[] from fun h=>m0 (by have:=HOL.out;rw[h] at this;simpa using this.symm));clear m0;by_cases r0:(m:Int)=rank
   ·subst r0;have dr0:((m:Int) != (m:Int))=false:=by simp
    have HR:=Hd (c2x (rank:=(m:Int)) HN16 HE HNE (by rw[HOL.out]));go_wp2;go_ret3;rw[HR.out];exact⟨⟨_,m,rfl,HOW.mono HB.size⟩,a1m HB HBW⟩
   ·have dr0:((m:Int) != rank)=true:=by simpa using r0
    have HR:=Hd (c1r (rank:=rank) HN16 HE HNE (by rw[HOL.out];exact r0));go_wp2;go_ret3;rw[HR.out];exact⟨⟨_,0,rfl,OwnS.nil_ _ _ _⟩,a1m HB HBW⟩
theorem c9b (h:¬(0≤x∧x<nm.length)):b4a nm x=⟨#[46]⟩:=by rw[b4a,iN h]
theorem d4b {x:Nat}{y:Int}(h:nm[x]?=some y):b4a nm (x:Int)=Utf8.encode y:=by
 rw[b4a,iP ⟨by omega,by have:=(lL h);omega⟩,Int.toNat_natCast,gD,h];rfl
theorem d0w {l:List Int}{k:Nat}(h:l[k]?=some x):b2f nm (l.take (k+1))=b2f nm (l.take k)++b4a nm x:=by
 rw[b2f,b2f,List.take_add_one,h,List.foldl_append];rfl
theorem d1x (nm:List Int)(x:Int):(b4a nm x).size≤4:=by
 rw[b4a]
 split
 ·exact encode_size_le _
 ·exact(by decide:(⟨#[46]⟩:ByteArray).size≤4)
theorem c0z (nm:List Int):∀(l:List Int) (o:ByteArray),(l.foldl (fun o x=>o++b4a nm x) o).size≤o.size+4*l.length
 | [],o=>by simp
 | x::l,o=>by
  rw[List.foldl_cons];have h1:=c0z nm l (o++b4a nm x);have h2:=d1x nm x;rw[ByteArray.size_append] at h1;rw[List.length_cons];omega
theorem c1z (nm l:List Int):(b2f nm l).size≤4*l.length:=by
 have:=c0z nm l ByteArray.empty;rw[ByteArray.size_empty] at this;rw[b2f];omega
theorem c6a {A:Option Addr}{n c:Nat}{spec:List Int}(hs:s.size≤17592186044000)(hA:Ints w A n spec)(hn:n≤17592186044000):
  Calls prog 25 #[.string s,.slice A n c] w fun e w'=>e=.returned (.string (b2f (a0k s) spec))∧Below w.heap.size w w':=by
 have C1:=a8b w s hs;obtain⟨nm,hnm⟩:∃ l,a0k s=l:=⟨_,rfl⟩;rw[hnm] at C1 ⊢;clear hnm hs;have HA:=Hd hA;have HAL:=Hd hA.len;have HAN:=Hd hn;clear hA hn
 go_enter func25,ntmps25
 go_wp2_with fail
 refine C1.mono ?_;rintro e1 w1 ⟨⟨v,m,rfl,hO⟩,hb⟩;obtain⟨R,rc,rfl,hrc,hI,_⟩:=hO.form;have HB:=Hd hb;have H1:=Hd hI.len;have HI:=Hd hI;have HS:=Hd (HA.below hb);have hle:=hI.le;clear C1 hO hb hI
 go_wp2_with fail
 go_loop [12,6] (fun i sv=>∃ k:Nat,k≤n∧i=.int .i64 k∧sv=.string (b2f nm (spec.take k))) (fun i _=>n-(intOf i).toNat)
 case atStart=>exact⟨0,Nat.zero_le _,rfl,rfl⟩
 case round =>
  obtain⟨k,hk,rfl,rfl⟩:=hrel;by_cases hlt:k<n
  ·obtain⟨sa,x,rfl,_,hx,hcx,hfx⟩:=HS.at_ hlt;have HST:=Hd (d0w (nm:=nm) hx);have hsz:=c1z nm (spec.take k);rw[List.length_take] at hsz;obtain⟨T0,hT0⟩:∃ T0,b2f nm (spec.take k)=T0:=⟨_,rfl⟩;rw[hT0] at hsz ⊢;have HT0:=Hd hT0;have hn9:=HAN.out;clear hx hT0;by_cases b0:x<0
   ·have db0:decide (x<0)=true:=by simpa using b0
    have HQ:=Hd (show b2f nm (spec.take (k+1))=T0++⟨#[46]⟩ by rw[HST.out,HT0.out,c9b (by omega)]);have hsum:T0.size+(⟨#[46]⟩:ByteArray).size≤9223372036854775807:=by have:(⟨#[46]⟩:ByteArray).size=1:=rfl;omega
    go_wp2;go_round
    case rel=>exact⟨k+1,by omega,by go_num,by rw[HQ.out]⟩
    case measure=>simp[intOf];omega
   have db0:decide (x<0)=false:=by simpa using b0
   by_cases b1:(m:Int)≤x
   ·have db1:decide ((m:Int)≤x)=true:=by simpa using b1
    have HQ:=Hd (show b2f nm (spec.take (k+1))=T0++⟨#[46]⟩ by rw[HST.out,HT0.out,c9b (by have:=H1.out;omega)]);have hsum:T0.size+(⟨#[46]⟩:ByteArray).size≤9223372036854775807:=by have:(⟨#[46]⟩:ByteArray).size=1:=rfl;omega
    go_wp2;go_round
    case rel=>exact⟨k+1,by omega,by go_num,by rw[HQ.out]⟩
    case measure=>simp[intOf];omega
   have db1:decide ((m:Int)≤x)=false:=by simpa using b1
   obtain⟨xn,rfl⟩:=eZ (by omega:0≤x);have hxm:xn<m:=by omega
   have db2:decide (m≤xn)=false:=by simp;omega
   clear b0 b1;obtain⟨ra,y,rfl,_,hy,hcy,_⟩:=HI.at_ hxm;have HQ:=Hd (show b2f nm (spec.take (k+1))=T0++Utf8.encode y by rw[HST.out,HT0.out,d4b hy]);have hsum:T0.size+(Utf8.encode y).size≤9223372036854775807:=by have:=encode_size_le y;omega
   clear hy;go_wp2;go_round
   case rel=>exact⟨k+1,by omega,by go_num,by rw[HQ.out]⟩
   case measure=>simp[intOf];omega
  ·have hkn:k=n:=by omega
   subst hkn;have HE:=Hd (show spec.take k=spec from List.take_of_length_le (by have:=HAL.out;omega));go_wp2;go_ret;exact⟨by rw[HE.out];rfl,HB⟩
def b2k (x:Int):Bool:=decide (1≤x)&&decide (x≤8)
noncomputable def a8n (G:a3n):Bool:=decide (G.sizes.length≤3)&&G.sizes.all b2k&&decide (Sh.pr G.sizes≤8)&&a9a (a0k G.names) G.sizes.length
theorem c3y (h:G.sizes[j]?=some x)(hx:x<1∨8<x∨3≤j):a8n G=false:=by
 obtain⟨hj,rfl⟩:=List.getElem?_eq_some_iff.1 h
 cases e:a8n G with
 | false=>rfl
 | true =>
  simp only[a8n,Bool.and_eq_true,decide_eq_true_eq,List.all_eq_true,b2k] at e;obtain⟨⟨⟨h1,h2⟩,_⟩,_⟩:=e;have:=h2 _ (List.getElem_mem hj);omega
theorem c2l (hl:G.sizes.length≤3)(h:∀(i:Nat) (x:Int),G.sizes[i]?=some x→1≤x∧x≤8):a8n G=(decide (Sh.pr G.sizes≤8)&&a9a (a0k G.names) G.sizes.length):=by
 have:G.sizes.all b2k=true:=by
  rw[List.all_eq_true];intro x hx;obtain⟨i,hi,e⟩:=List.getElem_of_mem hx;have:=h i x (by rw[List.getElem?_eq_getElem hi,e]);simp[b2k,this]
 simp only[a8n,this,decide_eq_true hl,Bool.true_and]
theorem c3q (h:a2c w v G):
  Calls prog 137 #[v] w fun e w'=>e=.returned (.bool (a8n G))∧Below w.heap.size w w':=by
 have HG:=h;obtain⟨A,na,ca,B,nb,cb,C,nc,cc,rfl,hL⟩:=h;replace HG:=Hd HG;obtain⟨hia,hib,hic,hA,hB,hC,hnm⟩:=hL;have h1:=(((Sep.nil w).old hC).old hA).allocBox w.heap.size 25 [.slice A na ca,.string G.names,.slice B nb cb,.slice C nc cc] rfl;have hal:=hA.le;have hcl:=hC.le;have HAL:=Hd hA.len;have HCL:=Hd hC.len;have HBL:=Hd hB.1;have hbl:=hB.2.1;have HB:=Hd hB;clear hA hC hB
 go_enter func137,ntmps137
 go_upto_region 1 with fail
 generalize w.alloc (.cells #[.slice A na ca,.string G.names,.slice B nb cb,.slice C nc cc] 25)=W at *;have H:=Hd h1;clear h1;obtain⟨g0,g1,g2,g3⟩:=H.cells4 0 rfl
 go_wp2_with fail
 clear g0 g1 g2 g3
 go_loopw [8,3] (fun iv nv wr=>∃ j:Nat,iv=.int .i64 j∧nv=.int .i64 (Sh.pr (G.sizes.take j))∧j≤na∧j≤3∧(∀(i:Nat) (x:Int),G.sizes[i]?=some x→i<j→1≤x∧x≤8)∧Sep w wr [.box w.heap.size 25 [.slice A na ca,.string G.names,.slice B nb cb,.slice C nc cc],.ints A na G.sizes,.ints C nc G.outs]) (fun iv _ _=>na-(intOf iv).toNat)
 case atStart=>exact⟨0,rfl,rfl,by omega,by omega,by omega,H⟩
 case round =>
  clear H;obtain⟨j,rfl,rfl,hj,hj3,hAll,hS⟩:=hrel;have H:=Hd hS;have HA:=Hd hAll;clear hS hAll;obtain⟨g0,g1,g2,g3⟩:=H.cells4 0 rfl;by_cases hlt:j<na
  ·obtain⟨sa,x,hsA,_,hx,hcx,hfx⟩:=(H.oldInts 1 rfl).at_ (k:=j) hlt;subst hsA;by_cases h1:x<1
   ·have d1:decide (x<1)=true:=by simpa using h1
    have HX:=Hd (c3y hx (by omega));clear hx hfx;go_wp2;go_ret;exact⟨a0b HX.symm,H.base⟩
   have d1:decide (x<1)=false:=by simpa using h1
   by_cases h2:8<x
   ·have d2:decide (8<x)=true:=by simpa using h2
    have HX:=Hd (c3y hx (by omega));clear hx hfx;go_wp2;go_ret;exact⟨a0b HX.symm,H.base⟩
   have d2:decide (8<x)=false:=by simpa using h2
   by_cases h3:3≤j
   ·have d3:decide (3≤j)=true:=by simpa using h3
    have HX:=Hd (c3y hx (by omega));clear hx hfx;go_wp2;go_ret;exact⟨a0b HX.symm,H.base⟩
   have d3:decide (3≤j)=false:=by simpa using h3
   have hpt:=Sh.pr_take G.sizes hx;have HX:=Hd hx
   have hps:∀ k,k≤j+1→0≤Sh.pr (G.sizes.take k)∧Sh.pr (G.sizes.take k)≤1048576:=fun k hk=>by
    have hm:∀ y∈G.sizes.take k,0≤y∧y≤32:=fun y hy=>by
     obtain⟨i,hi,e⟩:=List.getElem_of_mem hy;rw[List.length_take] at hi;have hi2:G.sizes[i]?=some y:=by rw[←e,List.getElem_take,List.getElem?_eq_getElem]
     rcases Nat.lt_or_ge i j with hij|hij
     ·have:=HA.out i y hi2 hij;omega
     ·obtain rfl:i=j:=by omega
      have h9:=HX.out;rw[hi2] at h9;injection h9 with h9;omega
    have hl4:(G.sizes.take k).length≤4:=by rw[List.length_take];omega
    exact Sh.pr_small _ hm hl4
   obtain⟨hq1,hq2⟩:=hps (j+1) (by omega);obtain⟨hq3,hq4⟩:=hps j (by omega);rw[hpt] at hq1 hq2;obtain⟨P,hP⟩:∃ P,Sh.pr (G.sizes.take j)=P:=⟨_,rfl⟩;rw[hP] at hq1 hq2 hq3 hq4 hpt ⊢;have hwp:IntKind.i64.wrap (P*x)=P*x:=IntWalk.i64_in _ ⟨by omega,by omega⟩;have HPT:=Hd hpt;clear hpt hps hP hx hfx;go_wp2;go_roundw
   case rel=>exact⟨j+1,by go_num,by rw[HPT.out],by omega,by omega,fun i y hi hi2=>by
    rcases Nat.lt_or_ge i j with hij|hij
    ·exact HA i y hi hij
    ·obtain rfl:i=j:=by omega
     have h9:=HX.out
     rw[hi] at h9;injection h9 with h9;omega,H⟩
   case measure=>simp[intOf];omega
  ·obtain rfl:j=na:=by omega
   have HE:=Hd (c2l (G:=G) (by have:=HAL.out;omega) (fun i x hi=>HA.out i x hi (by have:=HAL.out;have:=(lL hi);omega)));rw[List.take_of_length_le (by have:=HAL.out;omega)];obtain⟨P,hP⟩:∃ P,Sh.pr G.sizes=P:=⟨_,rfl⟩;rw[hP];have HP:=Hd hP;clear hP;by_cases h8:P≤8
   ·have d8:decide (P≤8)=true:=by simpa using h8
    have HX:=Hd (show a8n G=a9a (a0k G.names) (j:Int) by rw[HE.out,HP.out,HAL.out,d8,Bool.true_and])
    go_wp2_with fail
    refine(c3h (j:Int) hnm).mono ?_;rintro e7 w7 ⟨rfl,hb7⟩;replace H:=Hd (H.below hb7);clear hb7 g0 g1 g2 g3;go_wp2;go_ret;exact⟨a0b HX.symm,H.base⟩
   ·have d8:decide (P≤8)=false:=by simpa using h8
    have HX:=Hd (show a8n G=false by rw[HE.out,HP.out,d8,Bool.false_and]);go_wp2;go_ret;exact⟨a0b HX.symm,H.base⟩
def parF:Nat→List a0s→List Int
 | _,[]=>[]
 | k,nd::l=>if nd.op=1 then(k:Int)::parF (k+1) l else parF (k+1) l
theorem a7x {L:List a0s}{y:a0s}(h:L[j]?=some y):L.drop j=y::L.drop (j+1):=by
 obtain⟨hj,rfl⟩:=List.getElem?_eq_some_iff.1 h;exact List.drop_eq_getElem_cons hj
theorem a7s (h:a2c w v G):
  Calls prog 19 #[v] w fun e w'=>(∃ v m,e=.returned v∧OwnS w' w.heap.size 3 v m (parF 0 G.nodes))∧Below w.heap.size w w':=by
 have HG:=h;obtain⟨A,na,ca,B,nb,cb,C,nc,cc,rfl,hL⟩:=h;replace HG:=Hd HG;obtain⟨hia,hib,hic,hA,hB,hC,hnm⟩:=hL;have h1:=(((Sep.nil w).old hC).old hA).allocBox w.heap.size 25 [.slice A na ca,.string G.names,.slice B nb cb,.slice C nc cc] rfl;have hal:=hA.le;have hcl:=hC.le;have HAL:=Hd hA.len;have HCL:=Hd hC.len;have HBL:=Hd hB.1;have hbl:=hB.2.1;have HB:=Hd hB;clear hA hC hB
 go_enter func19,ntmps19
 go_upto_region 1 with fail
 generalize w.alloc (.cells #[.slice A na ca,.string G.names,.slice B nb cb,.slice C nc cc] 25)=W at *;have H:=Hd h1;clear h1;have HN:=Hd (H.addNil 3);replace H:=HN;clear HN;obtain⟨g0,g1,g2,g3⟩:=H.cells4 1 rfl
 go_wp2_with fail
 clear g0 g1 g2 g3
 go_loopw [9,3] (fun iv ov wr=>∃(j:Nat) (vo:Value) (acc:List Int),vo=ov∧iv=.int .i64 j∧j≤nb∧acc.length≤j∧acc++parF j (G.nodes.drop j)=parF 0 G.nodes∧Sep w wr [.own 3 vo acc.length acc,.box w.heap.size 25 [.slice A na ca,.string G.names,.slice B nb cb,.slice C nc cc],.ints A na G.sizes,.ints C nc G.outs]) (fun iv _ _=>nb-(intOf iv).toNat)
 case atStart=>exact⟨0,_,[],rfl,rfl,by omega,Nat.le_refl _,by rw[List.nil_append];rfl,H⟩
 case round =>
  clear H;obtain⟨j,vo,acc,rfl,rfl,hj,hal2,hpar,hS⟩:=hrel;have H:=Hd hS;have HP:=Hd hpar;clear hS hpar;obtain⟨g0,g1,g2,g3⟩:=H.cells4 1 rfl;by_cases hlt:j<nb
  ·obtain⟨nd,hnd⟩:∃ nd,G.nodes[j]?=some nd:=gE (by have:=HBL.out;omega);obtain⟨la,S,ns,cs,D,nD,cD,E,ne,ce,hla,hlb,k0,k1,k2,k3,k4,k5,k6,hNL⟩:=HB.out.2.2 j nd hnd;subst hla;obtain⟨c0,c1,c2,c3,c4,c5,c6⟩:=old7 H hlb k0 k1 k2 k3 k4 k5 k6;have HPD:=Hd (show acc++parF j (nd::G.nodes.drop (j+1))=parF 0 G.nodes by rw[←a7x hnd];exact HP);clear k0 k1 k2 k3 k4 k5 k6 hNL hnd;have h3:=H.allocBox wr.heap.size 38 [.int .i64 nd.op,.slice S ns cs,.slice D nD cD,.slice E ne ce,.int .i64 nd.n,.int .i64 nd.how,.string nd.note] rfl
   go_upto_region 5 with fail
   generalize wr.alloc (.cells #[.int .i64 nd.op,.slice S ns cs,.slice D nD cD,.slice E ne ce,.int .i64 nd.n,.int .i64 nd.how,.string nd.note] 38)=w3 at *;replace H:=Hd h3;clear h3 c0 c1 c2 c3 c4 c5 c6 g0 g1 g2 g3;obtain⟨n0,n1,n2,n3,n4,n5,n6⟩:=H.cells7 0 rfl;by_cases ho:nd.op=1
   ·have dop:(nd.op==1)=true:=by simpa using ho
    have HPE:=Hd (show(acc++[(j:Int)])++parF (j+1) (G.nodes.drop (j+1))=parF 0 G.nodes by have h5:=HPD.out;rw[parF,iP ho] at h5;rw[List.append_assoc];exact h5);clear ho
    go_wp2_with (at_builtin;refine a0x rfl (.tmp 17) (.tmp 19) 22 3 rfl underlying22 Tryz.infoInt H.out 1 rfl rfl (j:Int) ⟨by omega,by omega⟩ _ rfl ?c1 ?_)
    case c1=>omega
    intro v' w' h';have H8:=Hd (Sep.tail_ h');clear h' n0 n1 n2 n3 n4 n5 n6;go_wp2;go_roundw
    case rel=>exact⟨j+1,_,acc++[(j:Int)],rfl,by go_num,by omega,by rw[List.length_append,List.length_singleton];omega,HPE,by rw[List.length_append,List.length_singleton];exact H8⟩
    case measure=>simp[intOf];omega
   ·have dop:(nd.op==1)=false:=by simpa using ho
    have HPE:=Hd (show acc++parF (j+1) (G.nodes.drop (j+1))=parF 0 G.nodes by have h5:=HPD.out;rw[parF,iN ho] at h5;exact h5);clear ho;replace H:=Hd H.tail_;go_wp2;go_roundw
    case rel=>exact⟨j+1,_,acc,rfl,by go_num,by omega,by omega,HPE,H⟩
    case measure=>simp[intOf];omega
  ·obtain rfl:j=nb:=by omega
   have HE:=Hd (show parF 0 G.nodes=acc by have h5:=HP.out;rw[List.drop_eq_nil_of_le (by have:=HBL.out;omega)] at h5;rw[←h5,parF,List.append_nil]);go_wp2;go_ret;rw[HE.out];exact⟨⟨_,_,rfl,H.ownS 0 rfl⟩,H.base⟩
end Go.Proofs.YtjblengklgkgfaaGreat
