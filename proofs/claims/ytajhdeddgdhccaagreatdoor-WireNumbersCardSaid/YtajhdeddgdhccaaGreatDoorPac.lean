import Derived.Laws.Cover4
import Derived.Test.YtajhdeddgdhccaaGreatDoorPab
set_option maxRecDepth 100000
set_option maxHeartbeats 12800000
namespace Go.Proofs.YtajhdeddgdhccaaGreatDoor
open Go.RowKit Go.Proofs.Tryz
variable {k:Nat} {nm:List Int} {s:ByteArray} {w:World} {x:Int}
theorem Tryz.infoI32:(prog.info? 21).map (fun i=>(i.zero,i.size,i.bytes))=some (some (.int .i32 0),1,4):=by kernel_rfl
theorem b1f {pos:Nat}(h:w.heap[k]?=some (.stringIter s pos)):w.iterPos k=pos:=by simp[World.iterPos,h]
theorem a6d (w:World)(s:ByteArray)(hs:s.size≤17592186044000):
  Calls prog 46 #[.string s] w fun e w'=>(∃ v n,e=.returned v∧a2c w' w.heap.size 21 v n (a0b s))∧Below w.heap.size w w':=by
 have hi:=World.iter_heap w s 0;have hb:Below w.heap.size w (w.iter s 0):=(Below.refl _ _).alloc (Nat.le_refl _) _;have hz:(w.iter s 0).heap.size=w.heap.size+1:=by simp[World.iter]
 have HS:=Hd hs;clear hs
 go_enter func46,ntmps46
 go_wp2_with fail
 generalize w.iter s 0=w1 at *
 go_loopw [3] (fun v wr=>∃(pos n:Nat) (xs:List Int),wr.heap[w.heap.size]?=some (.stringIter s pos)∧a2c wr (w.heap.size+1) 21 v n xs∧xs++a1q s s.size pos=a0b s∧n≤pos∧Below w.heap.size w wr) (fun _ w'=>s.size-w'.iterPos w.heap.size)
 case atStart=>exact⟨0,0,[],hi,a2c.nil_ _ _ _,rfl,by omega,hb⟩
 case round =>
  clear hi hb hz;obtain⟨pos,n,xs,hi,hO,hx,hn,hB⟩:=hrel;have hs:=HS.out;have HB:=Hd hB;have HI:=Hd hi
  have hkl:w.heap.size<wr.heap.size:=by
   rcases Nat.lt_or_ge w.heap.size wr.heap.size with hl|hl
   ·exact hl
   ·rw[Array.getElem?_eq_none hl] at hi;cases hi
  by_cases hlt:pos<s.size
  ·have hnx:=fun ty=>b4l (P:=prog) hi hlt ty
   have hg:=b1s (w:=wr) (s:=s) (k:=w.heap.size) (pos:=pos+(Utf8.decode s pos).2);have hi2:=b3l (w:=wr) (s:=s) (pos:=pos+(Utf8.decode s pos).2) hkl;have hO2:=hO.grown hg (by omega);have hB2:=a8x hB (by omega) hg (Nat.le_refl _);have hw:=a7l s pos hlt;have hf:=c0g s pos;have hst:=b2g s hlt;generalize a7o wr w.heap.size s (pos+(Utf8.decode s pos).2)=w2 at *;have HI2:=Hd hi2;have HO2:=Hd hO2;have HB2:=Hd hB2;have HST:=Hd hst;have HX:=Hd hx;have HF:=Hd hf;have hz2:w.heap.size<w2.heap.size:=by have:=hg.size;omega
   clear hi hg hi2 hO hO2 hB2 hst hx hB hs hf;generalize hdr:(Utf8.decode s pos).1=dr at *;generalize hdw:(Utf8.decode s pos).2=dw at *;clear hdr hdw
   go_wp2_with (at_builtin;refine a6h rfl _ _ 88 21 rfl underlying88 Tryz.infoI32 (w.heap.size+1) _ n xs rfl HO2.out ?c1 (dr:Int) ?c2 _ rfl ?c3 ?_)
   case c1=>omega
   case c2=>exact HF
   case c3=>have:=HS.out;omega
   intro v' w3 hO3 hB3 hg3;have hi3:=(hB3.block w.heap.size (by omega)).trans HI2;have hB4:=HB2.trans (hB3.mono (by omega));have HI3:=Hd hi3;clear hi3 hB3 hg3 hnx;go_wp2;go_roundw
   case rel=>exact⟨pos+dw,n+1,xs++[(dr:Int)],HI3,hO3,by rw[←HX.out,HST.out];simp,by omega,hB4⟩
   case measure=>rw[b1f HI3.out,b1f HI.out];omega
  ·have hnx:=fun ty=>b0q (P:=prog) hi hlt ty
   have hxs:xs=a0b s:=by rw[←hx,b4m s hlt,List.append_nil]
   have HXS:=Hd hxs;have HO:=Hd hO;clear hi hxs hx hO hB hs;go_wp2;go_ret;exact⟨⟨_,n,rfl,by rw[←HXS.out];exact HO.mono (by omega)⟩,HB⟩
theorem Tryz.infoInt9:(prog.info? 3).map (fun i=>(i.zero,i.size,i.bytes))=some (some (.int .i64 0),1,8):=by kernel_rfl
def a6t (nm:List Int) (x:Int):ByteArray:=if 0≤x∧x<nm.length then Utf8.encode (nm.getD x.toNat 0) else⟨#[46]⟩
def a3p (nm spec:List Int):ByteArray:=spec.foldl (fun o x=>o++a6t nm x) ByteArray.empty
theorem b2d (r:Int)(hs:s.size≤17592186044000):
  Calls prog 85 #[.string s,.int .i32 r] w fun e w'=>e=.returned (.int .i64 (a4b (a0b s) r))∧Below w.heap.size w w':=by
 have C1:=a6d w s hs;obtain⟨l,hl⟩:∃ l,a0b s=l:=⟨_,rfl⟩;rw[hl] at C1 ⊢;clear hl hs
 go_enter func85,ntmps85
 go_wp2_with fail
 refine C1.mono ?_;rintro e1 w1 ⟨⟨v,n,rfl,hO⟩,hb⟩;obtain⟨A,c,rfl,hc,hI,_⟩:=hO.form;have HB:=Hd hb;have H1:=Hd hI.len;have hle:=hI.le;clear C1 hO hb
 go_wp2_with fail
 go_loop [10] (fun i=>∃ k:Nat,k≤n∧i=.int .i64 k∧r∉l.take k) (fun i=>n-(intOf i).toNat)
 case atStart=>exact⟨0,Nat.zero_le _,rfl,by simp⟩
 case round =>
  obtain⟨k,hk,rfl,hnm⟩:=hrel;have HN:=Hd hnm;clear hnm;by_cases hlt:k<n
  ·obtain⟨ad,y,rfl,hbl,hy,hcy,hf⟩:=hI.at_ hlt;have HY:=Hd hy;clear hy;by_cases hxy:y=r
   ·subst hxy;have HX:=Hd (b7g HY HN);go_wp2;go_ret;exact⟨by rw[HX.out];rfl,HB⟩
   ·have d:(y==r)=false:=by simpa using hxy
    have HXY:=Hd hxy;clear hxy;go_wp2;go_round
    case rel=>exact⟨k+1,by omega,by go_num,by
     rw[List.take_add_one,HY.out];intro hm;rcases List.mem_append.1 hm with hm|hm
     ·exact HN hm
     ·exact HXY (List.mem_singleton.1 hm).symm⟩
    case measure=>simp[intOf];omega
  ·have HX:=Hd (show a4b l r = -1 from b5y (by have h1:=HN.out;rwa [List.take_of_length_le (by have:=H1.out;omega)] at h1));go_wp2;go_ret;exact⟨by rw[HX.out];rfl,HB⟩
theorem b7z (nn:Int)(hs:s.size≤17592186044000):
  Calls prog 84 #[.string s,.int .i64 nn] w fun e w'=>e=.returned (.bool (a6e (a0b s) nn))∧Below w.heap.size w w':=by
 have C1:=a6d w s hs;have HS:=Hd hs;obtain⟨l,hl⟩:∃ l,a0b s=l:=⟨_,rfl⟩;rw[hl] at C1 ⊢;have HL:=Hd hl;clear hl hs
 go_enter func84,ntmps84
 go_wp2_with fail
 refine C1.mono ?_;rintro e1 w1 ⟨⟨v,n,rfl,hO⟩,hb⟩;obtain⟨A,c,rfl,hc,hI,_⟩:=hO.form;have HB:=Hd hb;have H1:=Hd hI.len;have hle:=hI.le;have HI:=Hd hI;clear C1 hO hb hI;by_cases g0:nn<0
 ·have dg0:decide (nn<0)=true:=by simpa using g0
  have HX:=Hd (a4k (l:=l) (n:=nn) (fun h=>by have:=h.1;omega));go_wp2;go_ret;exact⟨a0c HX.symm,HB⟩
 have dg0:decide (nn<0)=false:=by simpa using g0
 by_cases g1:3<nn
 ·have dg1:decide (3<nn)=true:=by simpa using g1
  have HX:=Hd (a4k (l:=l) (n:=nn) (fun h=>by have:=h.2.1;omega));go_wp2;go_ret;exact⟨a0c HX.symm,HB⟩
 have dg1:decide (3<nn)=false:=by simpa using g1
 by_cases g2:¬(n:Int)=nn
 ·have dg2:((n:Int) != nn)=true:=by simpa using g2
  have HX:=Hd (a4k (l:=l) (n:=nn) (fun h=>g2 (by have:=h.2.2.1;rw[H1.out] at this;exact this)));go_wp2;go_ret;exact⟨a0c HX.symm,HB⟩
 have dg2:((n:Int) != nn)=false:=by simpa using g2
 obtain rfl:(n:Int)=nn:=by simpa using g2
 clear g2
 go_wp2_with fail
 go_loopw [24] (fun i wr=>∃ k:Nat,k≤n∧i=.int .i64 k∧(∀ j,j<k→c0t l j)∧Below w1.heap.size w1 wr) (fun i _=>n-(intOf i).toNat)
 case atStart=>exact⟨0,Nat.zero_le _,rfl,fun j hj=>by omega,Below.refl _ _⟩
 case round =>
  obtain⟨k,hk,rfl,hall,hB⟩:=hrel;have HALL:=Hd hall;have HBW:=Hd hB;clear hall;have HIW:=Hd (HI.below hB);clear hB;by_cases hlt:k<n
  ·obtain⟨ad,x,rfl,hbl,hx,hcx,hf⟩:=HIW.at_ hlt;have HX:=Hd hx;have HBAD:=Hd (show ¬(¬ badR x∧a4b l x=k)→a6e l n=false from fun hb=>a4k fun h=>hb (h.2.2.2 k x HX));clear hx;by_cases b0:x<33
   ·have db0:decide (x<33)=true:=by simpa using b0
    have HR:=Hd (HBAD (fun h=>h.1 (by unfold badR;omega)));go_wp2;go_ret;exact⟨a0c HR.symm,a1t HB HBW⟩
   have db0:decide (x<33)=false:=by simpa using b0
   by_cases b1:x=65533
   ·have db1:(x==65533)=true:=by simpa using b1
    have HR:=Hd (HBAD (fun h=>h.1 (by unfold badR;omega)));clear b1;go_wp2;go_ret;exact⟨a0c HR.symm,a1t HB HBW⟩
   have db1:(x==65533)=false:=by simpa using b1
   by_cases b2:x=46
   ·have db2:(x==46)=true:=by simpa using b2
    have HR:=Hd (HBAD (fun h=>h.1 (by unfold badR;omega)));clear b2;go_wp2;go_ret;exact⟨a0c HR.symm,a1t HB HBW⟩
   have db2:(x==46)=false:=by simpa using b2
   by_cases b3:x=45
   ·have db3:(x==45)=true:=by simpa using b3
    have HR:=Hd (HBAD (fun h=>h.1 (by unfold badR;omega)));clear b3;go_wp2;go_ret;exact⟨a0c HR.symm,a1t HB HBW⟩
   have db3:(x==45)=false:=by simpa using b3
   by_cases b4:x=40
   ·have db4:(x==40)=true:=by simpa using b4
    have HR:=Hd (HBAD (fun h=>h.1 (by unfold badR;omega)));clear b4;go_wp2;go_ret;exact⟨a0c HR.symm,a1t HB HBW⟩
   have db4:(x==40)=false:=by simpa using b4
   by_cases b5:x=41
   ·have db5:(x==41)=true:=by simpa using b5
    have HR:=Hd (HBAD (fun h=>h.1 (by unfold badR;omega)));clear b5;go_wp2;go_ret;exact⟨a0c HR.symm,a1t HB HBW⟩
   have db5:(x==41)=false:=by simpa using b5
   have HNB:=Hd (show ¬ badR x by unfold badR;omega);clear b1 b2 b3 b4 b5;have CF:=b2d (w:=wr) (s:=s) x HS;rw[HL.out] at CF
   go_wp2_with fail
   refine CF.mono ?_;rintro e3 w3 ⟨rfl,hb3⟩;have HB3:=Hd hb3;clear CF hb3;obtain⟨f,hf2⟩:∃ f,a4b l x=f:=⟨_,rfl⟩;have HF:=Hd hf2;rw[hf2];clear hf2;by_cases hfk:f=(k:Int)
   ·have dfk:(f != (k:Int))=false:=by simp[hfk]
    have HFK:=Hd hfk;clear hfk;go_wp2;go_roundw
    case rel=>exact⟨k+1,by omega,by go_num,fun j hj=>by
     rcases Nat.lt_or_ge j k with h' | h'
     ·exact HALL j h'
     ·obtain rfl:j=k:=by omega
      intro y hy;rw[HX.out] at hy;injection hy with hy;subst hy
      exact⟨HNB,HF.trans HFK⟩,a1t HBW HB3⟩
    case measure=>simp[intOf];omega
   ·have dfk:(f != (k:Int))=true:=by simpa using hfk
    have HR:=Hd (HBAD (fun h=>hfk (HF.symm.trans h.2)));clear hfk;go_wp2;go_ret;exact⟨a0c HR.symm,a1t (a1t HB HBW) HB3⟩
  ·have HR:=Hd (a6r (l:=l) (n:=(n:Int)) ⟨by omega,by omega,by rw[H1.out],fun i x hx=>HALL.out i (by have:=(lL hx);have:=H1.out;omega) x hx⟩);go_wp2;go_ret;exact⟨a0c HR.symm,a1t HB HBW⟩
theorem b2e {t:ByteArray}(rank:Int)(hs:s.size≤17592186044000)(ht:t.size≤17592186044000):
  Calls prog 57 #[.string s,.string t,.int .i64 rank] w fun e w'=>(∃ v m,e=.returned (.tuple #[v,.bool (a4p (a0b s) (a0b t) rank).2.1,.int .i64 (a4p (a0b s) (a0b t) rank).2.2])∧OwnS w' w.heap.size 3 v m (a4p (a0b s) (a0b t) rank).1)∧Below w.heap.size w w':=by
 have C1:=a6d w t ht;have HS:=Hd hs;obtain⟨nm,hnm⟩:∃ l,a0b s=l:=⟨_,rfl⟩;obtain⟨l,hl⟩:∃ l,a0b t=l:=⟨_,rfl⟩;rw[hl] at C1 ⊢;rw[hnm];have HNM:=Hd hnm;clear hnm hl hs ht
 go_enter func57,ntmps57
 go_wp2_with fail
 refine C1.mono ?_;rintro e1 w1 ⟨⟨v,n,rfl,hO⟩,hb⟩;obtain⟨A,c,rfl,hc,hI,_⟩:=hO.form;have HB:=Hd hb;have H1:=Hd hI.len;have HI:=Hd hI;clear C1 hO hb hI;by_cases g0:16<n
 ·have dg0:decide (16<n)=true:=by simpa using g0
  have HX:=Hd (a6p (nm:=nm) (l:=l) (rank:=rank) (by rw[H1.out];exact g0));go_wp2;go_ret3;rw[HX.out];exact⟨⟨_,0,rfl,OwnS.nil_ _ _ _⟩,HB⟩
 have dg0:decide (16<n)=false:=by simpa using g0
 have hn16:n≤16:=by omega
 have HN16:=Hd (show l.length≤16 by rw[H1.out];exact hn16);clear g0
 go_wp2_with fail
 go_loopw [22,10] (fun i vs wr=>∃(k m:Nat) (out:List Int),k≤n∧i=.int .i64 k∧m≤k∧OwnS wr w1.heap.size 3 vs m out∧a3a nm [] l=a3a nm out (l.drop k)∧Below w1.heap.size w1 wr) (fun i _ _=>n-(intOf i).toNat)
 case atStart=>exact⟨0,0,[],Nat.zero_le _,rfl,Nat.le_refl _,OwnS.nil_ _ _ _,rfl,Below.refl _ _⟩
 case round =>
  obtain⟨k,m,out,hk,rfl,hm,hO,hnl,hB⟩:=hrel;have HNL:=Hd hnl;have HBW:=Hd hB;have HIW:=Hd (HI.below hB);have HOW:=Hd hO;have HOL:=Hd hO.len;clear hnl hB;obtain⟨Ao,co,hv,hco,_,_⟩:=hO.form;subst hv;clear hO;by_cases hlt:k<n
  ·obtain⟨ad,x,rfl,hbl,hx,hcx,hf⟩:=HIW.at_ hlt;have HX:=Hd hx;clear hx;by_cases b0:x=32
   ·subst b0;have HQ:=Hd (HNL.trans (b3u (out:=out) HX));go_wp2;go_roundw
    case rel=>exact⟨k+1,m,out,by omega,by go_num,by omega,HOW,HQ,HBW⟩
    case measure=>simp[intOf];omega
   have db0:(x==32)=false:=by simpa using b0
   by_cases b1:x=46
   ·subst b1;have HQ:=Hd (HNL.trans (b3v (out:=out) HX));clear b0
    go_wp2_with (at_builtin;refine a1x rfl (.tmp 47) (.tmp 49) 23 3 rfl underlying23 Tryz.infoInt9 w1.heap.size _ m out rfl HOW.out (by have:=HBW.out.size;exact this) (-1) ⟨by omega,by omega⟩ _ rfl ?c1 ?_)
    case c1=>omega
    intro v' w' h1 h2 h3;have G1:=Hd h1;have G2:=Hd h2;clear h1 h2 h3;go_wp2;go_roundw
    case rel=>exact⟨k+1,m+1,out++[-1],by omega,by go_num,by omega,G1,HQ,HBW.trans G2⟩
    case measure=>simp[intOf];omega
   have db1:(x != 46)=true:=by simpa using b1
   have CF:=b2d (w:=wr) (s:=s) x HS;rw[HNM.out] at CF
   go_wp2_with fail
   refine CF.mono ?_;rintro e3 w3 ⟨rfl,hb3⟩;have HB3:=Hd hb3;have HO3:=Hd (HOW.below hb3);have HBX:=Hd (a1t HBW hb3);clear CF hb3;obtain⟨f,hf2⟩:∃ f,a4b nm x=f:=⟨_,rfl⟩;have HF:=Hd hf2;have hfb:=b7h nm x;have hnmb:nm.length≤17592186044000:=by rw[←HNM.out];exact Nat.le_trans (a9b s) HS
   rw[hf2] at hfb ⊢;clear hf2;have HB0:=Hd b0;have HB1:=Hd b1;clear b0 b1;by_cases b2:f<0
   ·have db2:decide (f<0)=true:=by simpa using b2
    have HR:=Hd (a7y (rank:=rank) HN16 (HNL.trans (b6i HX HB0 HB1 (by rw[HF.out];exact b2))));go_wp2;go_ret3;rw[HR.out];exact⟨⟨_,0,rfl,OwnS.nil_ _ _ _⟩,a1t HB HBX⟩
   have db2:decide (f<0)=false:=by simpa using b2
   have HB2:=Hd (show ¬ a4b nm x<0 by rw[HF.out];exact b2);obtain⟨w4,rfl⟩:∃ w4:World,w4=w3:=⟨_,rfl⟩;have HI4:=Hd (show Ints w4 Ao m out from by obtain⟨A9,c9,hv9,_,h9,_⟩:=HO3.form;injection hv9 with q1 q2 q3;subst q1;exact h9);have hd3:decide (k<n)=true:=by simpa using hlt
   go_wp2_with fail
   go_loopw [37] (fun i wr=>∃ j:Nat,j≤m∧i=.int .i64 j∧f∉out.take j∧w4=wr) (fun i _=>m-(intOf i).toNat)
   case atStart=>exact⟨0,Nat.zero_le _,rfl,by simp,rfl⟩
   case round =>
    obtain⟨j,hj,rfl,hni,rfl⟩:=hrel;have HNI:=Hd hni;clear hni;by_cases hlj:j<m
    ·obtain⟨oa,y,rfl,_,hy,hcy,_⟩:=HI4.at_ hlj;have HY:=Hd hy;clear hy;by_cases hyf:y=f
     ·have dyf:(y==f)=true:=by simp[hyf]
      have HR:=Hd (a7y (rank:=rank) HN16 (HNL.trans (b3w HX HB0 HB1 (by have:=HB2.out;omega) (by rw[HF.out,←hyf];exact mG HY))));clear hyf;go_wp2;go_ret3;rw[HR.out];exact⟨⟨_,0,rfl,OwnS.nil_ _ _ _⟩,a1t HB HBX⟩
     ·have dyf:(y==f)=false:=by simpa using hyf
      have HYF:=Hd hyf;clear hyf;go_wp2;go_roundw
      case rel=>exact⟨j+1,by omega,by go_num,by
       rw[List.take_add_one,HY.out];intro hm2;rcases List.mem_append.1 hm2 with hm2|hm2
       ·exact HNI hm2
       ·exact HYF (List.mem_singleton.1 hm2).symm,by trivial⟩
      case measure=>simp[intOf];omega
    ·have HNO:=Hd (show a4b nm x∉out by rw[HF.out];have h1:=HNI.out;rwa [List.take_of_length_le (by have:=HOL.out;omega)] at h1);have HQ:=Hd (HNL.trans (b6h HX HB0 HB1 (by have:=HB2.out;omega) HNO))
     go_wp2_with (at_builtin;refine a1x rfl (.tmp 47) (.tmp 49) 23 3 rfl underlying23 Tryz.infoInt9 w1.heap.size _ m out rfl HO3.out (by have:=HBX.out.size;exact this) (f) ⟨by omega,by omega⟩ _ rfl ?c1 ?_)
     case c1=>omega
     intro v' w' h1 h2 h3;have G1:=Hd h1;have G2:=Hd h2;clear h1 h2 h3;go_wp2;go_roundw
     case rel=>exact⟨k+1,m+1,out++[f],by omega,by go_num,by omega,G1,by rw[←HF.out];exact HQ,HBX.trans G2⟩
     case measure=>simp[intOf];omega
  ·have HE:=Hd (HNL.trans (b9r (nm:=nm) (out:=out) (by have:=H1.out;omega)));by_cases m0:m=0
   ·have dm0:((m:Int)==0)=true:=by simp[m0]
    have HR:=Hd (a3u (rank:=rank) HN16 (HE.trans (by rw[List.eq_nil_of_length_eq_zero (HOL.trans m0)])));clear m0;go_wp2;go_ret3;rw[HR.out];exact⟨⟨_,0,rfl,OwnS.nil_ _ _ _⟩,a1t HB HBW⟩
   have dm0:((m:Int)==0)=false:=by simpa using m0
   have HNE:=Hd (show out≠[] from fun h=>m0 (by have:=HOL.out;rw[h] at this;simpa using this.symm));clear m0;by_cases r0:(m:Int)=rank
   ·subst r0;have dr0:((m:Int) != (m:Int))=false:=by simp
    have HR:=Hd (a8p (rank:=(m:Int)) HN16 HE HNE (by rw[HOL.out]));go_wp2;go_ret3;rw[HR.out];exact⟨⟨_,m,rfl,HOW.mono HB.size⟩,a1t HB HBW⟩
   ·have dr0:((m:Int) != rank)=true:=by simpa using r0
    have HR:=Hd (a8q (rank:=rank) HN16 HE HNE (by rw[HOL.out];exact r0));go_wp2;go_ret3;rw[HR.out];exact⟨⟨_,0,rfl,OwnS.nil_ _ _ _⟩,a1t HB HBW⟩
theorem b8d (h:¬(0≤x∧x<nm.length)):a6t nm x=⟨#[46]⟩:=by rw[a6t,iN h]
theorem c0l {x:Nat}{y:Int}(h:nm[x]?=some y):a6t nm (x:Int)=Utf8.encode y:=by
 rw[a6t,iP ⟨by omega,by have:=(lL h);omega⟩,Int.toNat_natCast,gD,h];rfl
theorem b6s {l:List Int}(h:l[k]?=some x):a3p nm (l.take (k+1))=a3p nm (l.take k)++a6t nm x:=by
 rw[a3p,a3p,List.take_add_one,h,List.foldl_append];rfl
theorem c5k (nm:List Int)(x:Int):(a6t nm x).size≤4:=by
 rw[a6t]
 split
 ·exact encode_size_le _
 ·exact(by decide:(⟨#[46]⟩:ByteArray).size≤4)
theorem b6a (nm:List Int):∀(l:List Int) (o:ByteArray),(l.foldl (fun o x=>o++a6t nm x) o).size≤o.size+4*l.length
 | [],o=>by simp
 | x::l,o=>by
  rw[List.foldl_cons];have h1:=b6a nm l (o++a6t nm x);have h2:=c5k nm x;rw[ByteArray.size_append] at h1;rw[List.length_cons];omega
theorem a6u (nm l:List Int):(a3p nm l).size≤4*l.length:=by
 have:=b6a nm l ByteArray.empty;rw[ByteArray.size_empty] at this;rw[a3p];omega
theorem b2f {A:Option Addr}{n c:Nat}{spec:List Int}(hs:s.size≤17592186044000)(hA:Ints w A n spec)(hn:n≤17592186044000):
  Calls prog 20 #[.string s,.slice A n c] w fun e w'=>e=.returned (.string (a3p (a0b s) spec))∧Below w.heap.size w w':=by
 have C1:=a6d w s hs;obtain⟨nm,hnm⟩:∃ l,a0b s=l:=⟨_,rfl⟩;rw[hnm] at C1 ⊢;clear hnm hs;have HA:=Hd hA;have HAL:=Hd hA.len;have HAN:=Hd hn;clear hA hn
 go_enter func20,ntmps20
 go_wp2_with fail
 refine C1.mono ?_;rintro e1 w1 ⟨⟨v,m,rfl,hO⟩,hb⟩;obtain⟨R,rc,rfl,hrc,hI,_⟩:=hO.form;have HB:=Hd hb;have H1:=Hd hI.len;have HI:=Hd hI;have HS:=Hd (HA.below hb);have hle:=hI.le;clear C1 hO hb hI
 go_wp2_with fail
 go_loop [12,6] (fun i sv=>∃ k:Nat,k≤n∧i=.int .i64 k∧sv=.string (a3p nm (spec.take k))) (fun i _=>n-(intOf i).toNat)
 case atStart=>exact⟨0,Nat.zero_le _,rfl,rfl⟩
 case round =>
  obtain⟨k,hk,rfl,rfl⟩:=hrel;by_cases hlt:k<n
  ·obtain⟨sa,x,rfl,_,hx,hcx,hfx⟩:=HS.at_ hlt;have HST:=Hd (b6s (nm:=nm) hx);have hsz:=a6u nm (spec.take k);rw[List.length_take] at hsz;obtain⟨T0,hT0⟩:∃ T0,a3p nm (spec.take k)=T0:=⟨_,rfl⟩;rw[hT0] at hsz ⊢;have HT0:=Hd hT0;have hn9:=HAN.out;clear hx hT0;by_cases b0:x<0
   ·have db0:decide (x<0)=true:=by simpa using b0
    have HQ:=Hd (show a3p nm (spec.take (k+1))=T0++⟨#[46]⟩ by rw[HST.out,HT0.out,b8d (by omega)]);have hsum:T0.size+(⟨#[46]⟩:ByteArray).size≤9223372036854775807:=by have:(⟨#[46]⟩:ByteArray).size=1:=rfl;omega
    go_wp2;go_round
    case rel=>exact⟨k+1,by omega,by go_num,by rw[HQ.out]⟩
    case measure=>simp[intOf];omega
   have db0:decide (x<0)=false:=by simpa using b0
   by_cases b1:(m:Int)≤x
   ·have db1:decide ((m:Int)≤x)=true:=by simpa using b1
    have HQ:=Hd (show a3p nm (spec.take (k+1))=T0++⟨#[46]⟩ by rw[HST.out,HT0.out,b8d (by have:=H1.out;omega)]);have hsum:T0.size+(⟨#[46]⟩:ByteArray).size≤9223372036854775807:=by have:(⟨#[46]⟩:ByteArray).size=1:=rfl;omega
    go_wp2;go_round
    case rel=>exact⟨k+1,by omega,by go_num,by rw[HQ.out]⟩
    case measure=>simp[intOf];omega
   have db1:decide ((m:Int)≤x)=false:=by simpa using b1
   obtain⟨xn,rfl⟩:=eZ (by omega:0≤x);have hxm:xn<m:=by omega
   have db2:decide (m≤xn)=false:=by simp;omega
   clear b0 b1;obtain⟨ra,y,rfl,_,hy,hcy,_⟩:=HI.at_ hxm;have HQ:=Hd (show a3p nm (spec.take (k+1))=T0++Utf8.encode y by rw[HST.out,HT0.out,c0l hy]);have hsum:T0.size+(Utf8.encode y).size≤9223372036854775807:=by have:=encode_size_le y;omega
   clear hy;go_wp2;go_round
   case rel=>exact⟨k+1,by omega,by go_num,by rw[HQ.out]⟩
   case measure=>simp[intOf];omega
  ·have hkn:k=n:=by omega
   subst hkn;have HE:=Hd (show spec.take k=spec from List.take_of_length_le (by have:=HAL.out;omega));go_wp2;go_ret;exact⟨by rw[HE.out];rfl,HB⟩
end Go.Proofs.YtajhdeddgdhccaaGreatDoor
