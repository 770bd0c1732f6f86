import Derived.Test.YtjblengklgkgfaaGreatPbf
set_option maxRecDepth 100000
set_option maxHeartbeats 12800000
namespace Go.Proofs.YtjblengklgkgfaaGreat
open Go.RowKit Go.Proofs.Tryz
variable {A:Option Addr} {a c g i n:Nat} {b b':a0c} {l l1:List a0c} {s:ByteArray} {w w0:World} {x:Int} {xs:List Int}
theorem c6j (r:Int)(hs:s.size≤17592186044000):
  Calls prog 103 #[.string s,.int .i32 r] w fun e w'=>e=.returned (.int .i64 (a5l (a0k s) r))∧Below w.heap.size w w':=by
 have HR:=Hd (b9a w s);have HB:=Hd (show Below w.heap.size w (w.iter s 0) from(Below.refl _ _).alloc (Nat.le_refl _) _);have HS:=Hd hs;clear hs
 go_enter func103,ntmps103
 go_wp2_with fail
 go_loopw [5] (fun v wr=>∃(pos k:Nat),v=.int .i64 k∧RIt wr w.heap.size s pos k∧r∉(a0k s).take k∧Below w.heap.size w wr) (fun _ wr=>s.size-wr.iterPos w.heap.size)
 case atStart=>exact⟨0,0,rfl,HR,by simp,HB⟩
 case round =>
  obtain⟨pos,k,rfl,hI,hno,hB⟩:=hrel;have HI:=Hd hI;have HN:=Hd hno;have HBW:=Hd hB;clear hno;by_cases hlt:pos<s.size
  ·obtain⟨w2,x,d,hnx,hI2,hd,hx,hf,hB2,hg⟩:=c2k hI hlt hB (Nat.le_refl _);have HI2:=Hd hI2;have HB2:=Hd hB2;have HX:=Hd hx;have hkb:=e0b hI hlt;have hs:=HS.out;clear hI hI2 hB hB2 hf hg hx;by_cases hxr:x=r
   ·subst hxr;have HV:=Hd (c3u HX HN);go_wp2;go_ret;exact⟨by rw[HV.out];rfl,HB2⟩
   ·have dxr:(x==r)=false:=by simpa using hxr
    have HXR:=Hd hxr;clear hxr;go_wp2;go_roundw
    case rel=>exact⟨pos+d,k+1,by go_num,HI2,by
     rw[List.take_add_one,HX.out];intro hm;rcases List.mem_append.1 hm with hm|hm
     ·exact HN hm
     ·exact HXR (List.mem_singleton.1 hm).symm,HB2⟩
    case measure=>rw[a8l HI2.out,a8l HI.out];omega
  ·have hnx:=c3b hI hlt;have HV:=Hd (show a5l (a0k s) r = -1 from c1x (by have h1:=HN.out;rwa [List.take_of_length_le (c8a hI hlt)] at h1));clear hI hB;go_wp2;go_ret;exact⟨by rw[HV.out];rfl,HBW⟩
open Classical in
noncomputable def d0t (x:Int):Bool:=decide (¬ badR x)
theorem c5j (h:¬ badR x):d0t x=true:=by unfold d0t;simpa using h
theorem a9x (h:badR x):d0t x=false:=by unfold d0t;simpa using h
theorem d9a (x:Int):
  Calls prog 102 #[.int .i32 x] w fun e w'=>e=.returned (.bool (d0t x))∧w=w':=by
 by_cases b1:x=46
 ·subst b1;have HG:=Hd (a9x (x:=46) (by unfold badR;omega))
  go_enter func102,ntmps102
  go_wp2;go_ret;exact⟨by rw[HG.out];rfl,by trivial⟩
 by_cases b2:x=45
 ·subst b2;have HG:=Hd (a9x (x:=45) (by unfold badR;omega))
  go_enter func102,ntmps102
  go_wp2;go_ret;exact⟨by rw[HG.out];rfl,by trivial⟩
 by_cases b3:x=40
 ·subst b3;have HG:=Hd (a9x (x:=40) (by unfold badR;omega))
  go_enter func102,ntmps102
  go_wp2;go_ret;exact⟨by rw[HG.out];rfl,by trivial⟩
 by_cases b4:x=41
 ·subst b4;have HG:=Hd (a9x (x:=41) (by unfold badR;omega))
  go_enter func102,ntmps102
  go_wp2;go_ret;exact⟨by rw[HG.out];rfl,by trivial⟩
 by_cases b5:x=65533
 ·subst b5;have HG:=Hd (a9x (x:=65533) (by unfold badR;omega))
  go_enter func102,ntmps102
  go_wp2;go_ret;exact⟨by rw[HG.out];rfl,by trivial⟩
 have d1:(x==46)=false:=by simpa using b1
 have d2:(x==45)=false:=by simpa using b2
 have d3:(x==40)=false:=by simpa using b3
 have d4:(x==41)=false:=by simpa using b4
 have d5:(x==65533)=false:=by simpa using b5
 have HG:=Hd (show decide ((33:Int)≤x)=d0t x by
  by_cases b0:x<33
  ·rw[a9x (by unfold badR;omega)];simp;omega
  ·rw[c5j (by unfold badR;omega)];simp;omega)
 clear b1 b2 b3 b4 b5
 go_enter func102,ntmps102
 go_wp2;go_ret;exact⟨by rw[←HG.out];rfl,by trivial⟩
theorem d0i (nn:Int)(hs:s.size≤17592186044000):
  Calls prog 56 #[.string s,.int .i64 nn] w fun e w'=>e=.returned (.bool (a9a (a0k s) nn))∧Below w.heap.size w w':=by
 have HR:=Hd (b9a w s);have HB:=Hd (show Below w.heap.size w (w.iter s 0) from(Below.refl _ _).alloc (Nat.le_refl _) _);have HS:=Hd hs;clear hs
 go_enter func56,ntmps56
 by_cases g0:nn<0
 ·have dg0:decide (nn<0)=true:=by simpa using g0
  have HX:=Hd (a5o (l:=a0k s) (n:=nn) (fun h=>by have:=h.1;omega));go_wp2;go_ret;exact⟨a0b HX.symm,Below.refl _ _⟩
 have dg0:decide (nn<0)=false:=by simpa using g0
 by_cases g1:3<nn
 ·have dg1:decide (3<nn)=true:=by simpa using g1
  have HX:=Hd (a5o (l:=a0k s) (n:=nn) (fun h=>by have:=h.2.1;omega));go_wp2;go_ret;exact⟨a0b HX.symm,Below.refl _ _⟩
 have dg1:decide (3<nn)=false:=by simpa using g1
 go_wp2_with fail
 go_loopw [5] (fun v wr=>∃(pos k:Nat),v=.int .i64 k∧(k:Int)≤nn∧k≤(a0k s).length∧RIt wr w.heap.size s pos k∧(∀ j,j<k→c7m (a0k s) j)∧Below w.heap.size w wr) (fun _ wr=>s.size-wr.iterPos w.heap.size)
 case atStart=>exact⟨0,0,rfl,by omega,by omega,HR,fun j hj=>by omega,HB⟩
 case round =>
  obtain⟨pos,k,rfl,hk3,hkl9,hI,hall,hB⟩:=hrel;have HI:=Hd hI;have HALL:=Hd hall;have HBW:=Hd hB;clear hall;by_cases hlt:pos<s.size
  ·obtain⟨w2,x,d,hnx,hI2,hd,hx,hf,hB2,hg⟩:=c2k hI hlt hB (Nat.le_refl _);have HI2:=Hd hI2;have HB2:=Hd hB2;have HX:=Hd hx;have hkb:=e0b hI hlt;have hs:=HS.out;have hkl:k<(a0k s).length:=(lL hx);have HBAD:=Hd (show ¬(¬ badR x∧a5l (a0k s) x=k)→a9a (a0k s) nn=false from fun hb=>a5o fun h=>hb (h.2.2.2 k x HX));clear hI hI2 hB hB2 hf hg hx;by_cases gk:(k:Int)=nn
   ·have dgk:((k:Int)==nn)=true:=by simpa using gk
    have HV:=Hd (a5o (l:=a0k s) (n:=nn) (fun h=>by have:=h.2.2.1;omega));go_wp2;go_ret;exact⟨a0b HV.symm,HB2⟩
   have dgk:((k:Int)==nn)=false:=by simpa using gk
   have CM:=fun w:World=>d9a (w:=w) x
   by_cases bx:badR x
   ·have HV:=Hd (HBAD (fun h=>h.1 bx));simp only[a9x bx] at CM;clear bx
    go_wp2_with fail
    refine(CM _).mono ?_;rintro e3 w3 ⟨rfl,rfl⟩;clear CM;go_wp2;go_ret;exact⟨a0b HV.symm,HB2⟩
   have HNB:=Hd bx;simp only[c5j bx] at CM;clear bx;have CF:=c6j (w:=w2) (s:=s) x HS;obtain⟨f,hf2⟩:∃ f,a5l (a0k s) x=f:=⟨_,rfl⟩;rw[hf2] at CF;have HF:=Hd hf2;have hfb:=c3v (a0k s) x;rw[hf2] at hfb;clear hf2
   go_wp2_with fail
   refine(CM _).mono ?_;rintro e3 w3 ⟨rfl,rfl⟩;clear CM
   go_wp2_with fail
   refine CF.mono ?_;rintro e4 w4 ⟨rfl,hb4⟩;have HI4:=Hd (b4f HI2 hb4 (c9f HI2));have HB4:=Hd (a1m HB2 hb4);clear CF hb4;by_cases gf:f<(k:Int)
   ·have dgf:decide (f<(k:Int))=true:=by simpa using gf
    have HV:=Hd (HBAD (fun h=>by have:=h.2;rw[HF.out] at this;omega));go_wp2;go_ret;exact⟨a0b HV.symm,HB4⟩
   have dgf:decide (f<(k:Int))=false:=by simpa using gf
   have HFK:=Hd (show a5l (a0k s) x=k by
    have hm:a5l (a0k s) x≤k:=by
     by_cases hin:x∈(a0k s).take k
     ·exact Int.le_of_lt (d8t hin)
     ·rw[c3u HX.out hin];exact Int.le_refl _
    rw[HF.out] at hm ⊢;omega)
   go_wp2;go_roundw
   case rel=>exact⟨pos+d,k+1,by go_num,by omega,by omega,HI4,fun j hj=>by
    rcases Nat.lt_or_ge j k with h|h
    ·exact HALL j h
    ·obtain rfl:j=k:=by omega
     intro y hy;rw[HX.out] at hy;injection hy with hy
     subst hy
     exact⟨HNB,HFK⟩,HB4⟩
   case measure=>rw[a8l HI4.out,a8l HI.out];omega
  ·have hnx:=c3b hI hlt;have hle:=c8a hI hlt
   have HV:=Hd (show((k:Int)==nn)=a9a (a0k s) nn by
    by_cases gk:(k:Int)=nn
    ·rw[b1y ⟨by omega,by omega,by omega,fun j x hj=>by
      rcases Nat.lt_or_ge j k with h|h
      ·exact HALL j h x hj
      ·have:=(lL hj);omega⟩]
     simpa using gk
    ·rw[a5o (fun h=>gk (by have:=h.2.2.1;omega))]
     simpa using gk)
   clear hI hB hle;go_wp2;go_ret;exact⟨a0b HV,HBW⟩
theorem c1i {nm l:List Int}{rank:Int}(g:a5e nm [] l=none):b0e nm l rank=([],false,14):=by
 rcases Nat.lt_or_ge 16 l.length with h|h
 ·exact b5c h
 ·exact b7t h g
theorem d3w {t:ByteArray}(rank:Int)(hs:s.size≤17592186044000)(ht:t.size≤17592186044000):
  Calls prog 104 #[.string s,.string t,.int .i64 rank] w fun e w'=>(∃ v m,e=.returned (.tuple #[v,.bool (b0e (a0k s) (a0k t) rank).2.1,.int .i64 (b0e (a0k s) (a0k t) rank).2.2])∧OwnS w' w.heap.size 3 v m (b0e (a0k s) (a0k t) rank).1)∧Below w.heap.size w w':=by
 have HR:=Hd (b9a w t);have HB:=Hd (show Below w.heap.size w (w.iter t 0) from(Below.refl _ _).alloc (Nat.le_refl _) _);have HZ:=Hd (show w.heap.size+1≤(w.iter t 0).heap.size by simp[World.iter]);have HS:=Hd hs;have HT:=Hd ht;obtain⟨nm,hnm⟩:∃ l,a0k s=l:=⟨_,rfl⟩;have HNM:=Hd hnm;have HNB:=Hd (show nm.length≤17592186044000 by rw[←hnm];exact Nat.le_trans (b2j s) hs);rw[hnm];clear hs ht hnm
 go_enter func104,ntmps104
 go_wp2_with fail
 go_loopw [9,10] (fun sv cv wr=>∃(pos k m:Nat) (out:List Int),cv=.int .i64 k∧k≤16∧m≤k∧k≤(a0k t).length∧RIt wr w.heap.size t pos k∧OwnS wr (w.heap.size+1) 3 sv m out∧a5e nm [] (a0k t)=a5e nm out ((a0k t).drop k)∧w.heap.size+1≤wr.heap.size∧Below w.heap.size w wr) (fun _ _ wr=>t.size-wr.iterPos w.heap.size)
 case atStart=>exact⟨0,0,0,[],rfl,by omega,by omega,by omega,HR,OwnS.nil_ _ _ _,rfl,HZ,HB⟩
 case round =>
  obtain⟨pos,k,m,out,rfl,hk,hm,hkl9,hI,hO,hnl,hz,hB⟩:=hrel;have HI:=Hd hI;have HNL:=Hd hnl;have HBW:=Hd hB;have HZW:=Hd hz;clear hnl hz;by_cases hlt:pos<t.size
  ·obtain⟨w2,x,d,hnx,hI2,hd,hx,hf,hB2,hg⟩:=c2k hI hlt hB (Nat.le_refl _);have hO2:=hO.grown hg (by omega);have HI2:=Hd hI2;have HO2:=Hd hO2;have HB2:=Hd hB2;have HX:=Hd hx;have HZ2:=Hd (show w.heap.size+1≤w2.heap.size by have:=hg.size;have:=HZW.out;omega);have hkl:k<(a0k t).length:=(lL hx);clear hI hI2 hO hO2 hB hB2 hf hg hx;by_cases g0:16<k+1
   ·have dg0:decide (16<k+1)=true:=by simpa using g0
    have HV:=Hd (b5c (nm:=nm) (l:=a0k t) (rank:=rank) (by omega));go_wp2;go_ret3;rw[HV.out];exact⟨⟨_,0,rfl,OwnS.nil_ _ _ _⟩,HB2⟩
   have dg0:decide (16<k+1)=false:=by simpa using g0
   by_cases b0:x=32
   ·subst b0;have HQ:=Hd (HNL.trans (b8w (out:=out) HX));go_wp2;go_roundw
    case rel=>exact⟨pos+d,k+1,m,out,by go_num,by omega,by omega,by omega,HI2,HO2,HQ,HZ2,HB2⟩
    case measure=>rw[a8l HI2.out,a8l HI.out];omega
   have db0:(x==32)=false:=by simpa using b0
   have CF:=c6j (w:=w2) (s:=s) x HS;rw[HNM.out] at CF;have HB0:=Hd b0;clear b0
   go_wp2_with fail
   refine CF.mono ?_;rintro e4 w4 ⟨rfl,hb4⟩;have HI4:=Hd (b4f HI2 hb4 (c9f HI2));have HO4:=Hd (HO2.below hb4);have HZ4:=Hd (show w.heap.size+1≤w4.heap.size from Nat.le_trans HZ2 hb4.size);have HB4:=Hd (a1m HB2 hb4);have HOL:=Hd HO4.len;clear CF hb4;obtain⟨f,hf2⟩:∃ f,a5l nm x=f:=⟨_,rfl⟩;have HF:=Hd hf2;have hfb:=c3v nm x;rw[hf2] at hfb ⊢;clear hf2;have hnb:=HNB.out;by_cases b1:x=46
   ·subst b1;have HQ:=Hd (HNL.trans (b9z (out:=out) HX))
    go_wp2_with (at_builtin;refine a3f rfl _ _ 22 3 rfl underlying22 Tryz.infoInt9 (w.heap.size+1) _ m out rfl HO4.out HZ4.out (-1) ⟨by omega,by omega⟩ _ rfl ?c1 ?_)
    case c1=>omega
    intro v' w' h1 h2 h3;have HI5:=Hd (b4f HI4 h2 (by omega));have G1:=Hd h1;have G2:=Hd (HB4.trans (h2.mono (by omega)));have GZ:=Hd (show w.heap.size+1≤w'.heap.size from Nat.le_trans HZ4 h2.size);clear h1 h2 h3;go_wp2;go_roundw
    case rel=>exact⟨pos+d,k+1,m+1,out++[-1],by go_num,by omega,by omega,by omega,HI5,G1,HQ,GZ,G2⟩
    case measure=>rw[a8l HI5.out,a8l HI.out];omega
   have db1:(x==46)=false:=by simpa using b1
   have HB1:=Hd b1;clear b1;by_cases b2:f<0
   ·have db2:decide (f<0)=true:=by simpa using b2
    have HV:=Hd (c1i (rank:=rank) (HNL.trans (c1a HX HB0 HB1 (by rw[HF.out];exact b2))));go_wp2;go_ret3;rw[HV.out];exact⟨⟨_,0,rfl,OwnS.nil_ _ _ _⟩,HB4⟩
   have db2:decide (f<0)=false:=by simpa using b2
   have HB2':=Hd (show ¬ a5l nm x<0 by rw[HF.out];exact b2);have CC:=c6f HO4 f;by_cases b3:f∈out
   ·have HV:=Hd (c1i (rank:=rank) (HNL.trans (b9f HX HB0 HB1 HB2' (by rw[HF.out];exact b3))));rw[show out.contains f=true from by simpa using b3] at CC;clear b3
    go_wp2_with fail
    refine CC.mono ?_;rintro e5 w5 ⟨rfl,rfl⟩;clear CC;go_wp2;go_ret3;rw[HV.out];exact⟨⟨_,0,rfl,OwnS.nil_ _ _ _⟩,HB4⟩
   have HQ:=Hd (HNL.trans (c1k (out:=out) HX HB0 HB1 HB2' (by rw[HF.out];exact b3)));rw[show out.contains f=false from by simpa using b3] at CC;clear b3
   go_wp2_with fail
   refine CC.mono ?_;rintro e5 w5 ⟨rfl,rfl⟩;clear CC
   go_wp2_with (at_builtin;refine a3f rfl _ _ 22 3 rfl underlying22 Tryz.infoInt9 (w.heap.size+1) _ m out rfl HO4.out HZ4.out f ⟨by omega,by omega⟩ _ rfl ?c1 ?_)
   case c1=>omega
   intro v' w' h1 h2 h3;have HI5:=Hd (b4f HI4 h2 (by omega));have G1:=Hd h1;have G2:=Hd (HB4.trans (h2.mono (by omega)));have GZ:=Hd (show w.heap.size+1≤w'.heap.size from Nat.le_trans HZ4 h2.size);clear h1 h2 h3;go_wp2;go_roundw
   case rel=>exact⟨pos+d,k+1,m+1,out++[f],by go_num,by omega,by omega,by omega,HI5,G1,by rw[←HF.out];exact HQ,GZ,G2⟩
   case measure=>rw[a8l HI5.out,a8l HI.out];omega
  ·have hnx:=c3b hI hlt;have hle:=c8a hI hlt;have HN16:=Hd (show(a0k t).length≤16 by omega);have HE:=Hd (HNL.trans (c5l (out:=out) hle));have HOL:=Hd hO.len;have HOW:=Hd (hO.mono (by omega:w.heap.size≤w.heap.size+1));obtain⟨Ao,co,hv,hco,_,_⟩:=hO.form;subst hv;clear hI hO hB hle;by_cases m0:m=0
   ·have dm0:((m:Int)==0)=true:=by simpa using m0
    have HOU:out=[]:=List.eq_nil_of_length_eq_zero (by rw[HOL.out];exact m0);have HV:=Hd (b0b (rank:=rank) HN16 (by rw[HE.out,HOU]));clear HOU;clear m0;go_wp2;go_ret3;rw[HV.out];exact⟨⟨_,0,rfl,OwnS.nil_ _ _ _⟩,HBW⟩
   have dm0:((m:Int)==0)=false:=by simpa using m0
   have HNE:=Hd (show out≠[] from fun h=>m0 (by have:=HOL.out;rw[h] at this;simpa using this.symm));clear m0;by_cases r0:(m:Int)=rank
   ·subst r0;have dr0:((m:Int) != (m:Int))=false:=by simp
    have HV:=Hd (c2x (rank:=(m:Int)) HN16 HE HNE (by rw[HOL.out]));go_wp2;go_ret3;rw[HV.out];exact⟨⟨_,m,rfl,HOW⟩,HBW⟩
   ·have dr0:((m:Int) != rank)=true:=by simpa using r0
    have HV:=Hd (c1r (rank:=rank) HN16 HE HNE (by rw[HOL.out];exact r0));go_wp2;go_ret3;rw[HV.out];exact⟨⟨_,0,rfl,OwnS.nil_ _ _ _⟩,HBW⟩
def tv (xs:List Int) (a:Nat) (m:Int):Int:=if xs.length≤a∨m<1 then 0 else xs.getD a 0 % 1073741825 % m
def ta (xs:List Int) (a:Nat) (m:Int):Nat:=if xs.length≤a∨m<1 then a else a+1
theorem a1a (xs:List Int)(a:Nat)(m:Int):0≤tv xs a m:=by
 rw[tv]
 split
 ·omega
 ·exact Int.emod_nonneg _ (by omega)
theorem a4l (xs:List Int)(a:Nat){m:Int}(h:0<m):tv xs a m<m:=by
 rw[tv]
 split
 ·omega
 ·exact Int.emod_lt_of_pos _ h
theorem a2e (m:Int)(h:xs.length=n)(ha:a≤n):ta xs a m≤n:=by
 rw[ta]
 split <;> omega
abbrev TB (g:Nat) (A:Option Addr) (n c a:Nat):a0c:=.box g 52 [.slice A n c,.int .i64 (a:Int)]
def KT (l:List a0c) (i:Nat) (b:a0c) (l1:List a0c):Prop:=l1[i]?=some b∧∀ X,l1.set i X=l.set i X
theorem KT.eq (h:KT l i b l1):l1=l.set i b:=by rw[←h.2 b,b9l h.1]
theorem KT.mk_ (h:l[i]?=some b'):KT l i b (l.set i b) :=
 ⟨by rw[List.getElem?_set_self (lL h)],fun X=>by rw[List.set_set]⟩
theorem KT.trans_ {l2:List a0c}(h:KT l i b l1)(g:KT l1 i b' l2):KT l i b' l2:=⟨g.1,fun X=>by rw[g.2,h.2]⟩
theorem Sep.tape_ {w':World}(H:Sep w0 w l)(i:Nat){t:TypeId}{vs vs' : List Value}(hi:l[i]?=some (.box g t vs))(hg:w.grownBy w' (some g))(hh:w'.heap[g]?=some (.cells vs'.toArray t (0,0))):Sep w0 w' (l.set i (.box g t vs')) :=
 H.change i hi hg ⟨(H.blockLt i hi).1,hh⟩ fun _ hk=>.inl hk
theorem d8v (m:Int)(hg:w.heap[g]?=some (.cells #[.slice A n c,.int .i64 a] 52 (0,0)))(hI:Ints w A n xs)(hne:∀ ad,A=some ad→0<n→ad.block≠g)(ha:a≤n)(hm:Fits m):
  Calls prog 21 #[.pointer (some ⟨g,0,none⟩),.int .i64 m] w fun e w'=>e=.returned (.int .i64 (tv xs a m))∧w.grownBy w' (some g)∧w'.heap[g]?=some (.cells #[.slice A n c,.int .i64 ((ta xs a m:Nat):Int)] 52 (0,0)):=by
 obtain⟨hm1,hm2⟩:=hm;have hle:=hI.le;have hxl:=Hd hI.len;have hc0:w.cell? ⟨g,0,none⟩=some (.slice A n c):=by rw[cell_of_row w g 0 _ _ _ hg];rfl
 have hc1:w.cell? ⟨g,1,none⟩=some (.int .i64 a):=by rw[cell_of_row w g 1 _ _ _ hg];rfl
 have hfz:w.frozen? ⟨g,1,none⟩=false:=frozen_of_row w g 1 _ _ hg;have HG:=Hd hg;clear hg;by_cases h1:a=n
 ·subst h1;have HV:=Hd (show tv xs a m=0∧ta xs a m=a by rw[tv,ta,iP (.inl (by have:=hxl.out;omega)),iP (.inl (by have:=hxl.out;omega))];exact⟨rfl,rfl⟩);have hd1:decide (a≤a)=true:=by simp
  have hd2:decide ((a:Int)≤(a:Int))=true:=by simp
  go_enter func21,ntmps21
  go_wp2
  go_quiet (fail)
  go_wp2;go_ret;exact⟨a2v HV.out.1.symm,a4e _ _ _,by rw[HV.out.2];exact HG⟩
 ·have h2:a<n:=by omega
  obtain⟨ad,x,rfl,hb,hx,hcx,hf⟩:=hI.at_ h2;have hne' : ad.block≠g:=hne ad rfl (by omega);have hd1:decide (n≤a)=false:=by simp;omega
  have hd2:decide ((n:Int)≤(a:Int))=false:=by simp;omega
  by_cases hm0:m<1
  ·have HV:=Hd (show tv xs a m=0∧ta xs a m=a by rw[tv,ta,iP (.inr hm0),iP (.inr hm0)];exact⟨rfl,rfl⟩);have hd3:decide (m<1)=true:=by simp;omega
   go_enter func21,ntmps21
   go_wp2
   go_quiet (fail)
   go_wp2;go_ret;exact⟨a2v HV.out.1.symm,a4e _ _ _,by rw[HV.out.2];exact HG⟩
  ·have HV:=Hd (show tv xs a m=x % 1073741825 % m∧ta xs a m=a+1 by
    have hc:¬(xs.length≤a∨m<1):=by have:=hxl.out;omega
    rw[tv,ta,iN hc,iN hc,gD,hx];exact⟨rfl,rfl⟩)
   have hd3:decide (m<1)=false:=by simp;omega
   go_enter func21,ntmps21
   go_wp2
   go_quiet (fail)
   go_wp2;have hG2:w.grownBy ((w.drewN nq).setCell ⟨g,1,none⟩ (.int .i64 (a+1))) (some g):=a1b (a4e w nq _) (a0h _ g 1 _);have hI2:=hI.grown hG2 (fun ad' e _=>by injection e with e;subst e;intro h';injection h' with h';exact hne' h');have hg2:((w.drewN nq).setCell ⟨g,1,none⟩ (.int .i64 (a+1))).heap[g]?=some (.cells #[.slice (some ad) n c,.int .i64 ((a+1:Nat):Int)] 52 (0,0)):=heap_setCell_same (w.drewN nq) g 1 _ _ (.int .i64 (a+1)) HG;have hcx:=hI2.get hx;clear hI;generalize hw2:(w.drewN nq).setCell ⟨g,1,none⟩ (.int .i64 (a+1))=w2 at *;clear hw2;have hc0:w2.cell? ⟨g,0,none⟩=some (.slice (some ad) n c):=by rw[cell_of_row w2 g 0 _ _ _ hg2];rfl
   have hc1:w2.cell? ⟨g,1,none⟩=some (.int .i64 ((a:Int)+1)):=by rw[cell_of_row w2 g 1 _ _ _ hg2];rfl
   have HX:=Hd hx;have HH:=Hd hg2;have HGG:=Hd hG2;clear hx hg2 hd1 hd2 hd3 hG2 HG hfz;have hr0:0≤x % 1073741825:=Int.emod_nonneg _ (by omega);have hr1:x % 1073741825<1073741825:=Int.emod_lt_of_pos _ (by omega);have hs0:0≤x % 1073741825 % m:=Int.emod_nonneg _ (by omega);have hs1:x % 1073741825 % m<m:=Int.emod_lt_of_pos _ (by omega)
   go_quiet ((go_at_call 40;exact a3b (c1p _ _ hf)))
   go_wp2;go_ret;exact⟨a2v HV.out.1.symm,a1b HGG (a4e _ _ _),by rw[HV.out.2];exact HH⟩
theorem a5i (m:Int)(H:Sep w0 w l)(hi:l[i]?=some (TB g A n c a))(hI:Ints w0 A n xs)(ha:a≤n)(hm:Fits m):
  Calls prog 21 #[.pointer (some ⟨g,0,none⟩),.int .i64 m] w fun e w'=>e=.returned (.int .i64 (tv xs a m))∧∃ l1,KT l i (TB g A n c (ta xs a m)) l1∧Sep w0 w' l1 :=
 (d8v m (H.heap i hi) (H.oldI hI) (fun ad he hn=>by
  obtain⟨ad', he', hb,_⟩:=hI.2.2.2 hn;rw[he] at he';injection he' with he';subst he'
  have:=(H.blockLt i hi).1
  omega) ha hm).mono fun _ _ ⟨he,hg,hh⟩=>⟨he,_,KT.mk_ hi,H.tape_ i hi hg hh⟩
def kNum (xs:List Int) (a:Nat):Int × Nat :=
 if tv xs a 9=0 then(a8s.getD (tv xs (ta xs a 9) 6).toNat 0,ta xs (ta xs a 9) 6)
 else if tv xs a 9=1 then(0,ta xs a 9) else(tv xs (ta xs a 9) 19-9,ta xs (ta xs a 9) 19)
def b0x (xs:List Int):Nat→Nat→List Int × Nat
 | 0,a=>([],a)
 | j+1,a=>(b4c.getD (tv xs a 8).toNat 0::(b0x xs j (ta xs a 8)).1,(b0x xs j (ta xs a 8)).2)
def a3g (xs:List Int) (a:Nat):List Int × Nat:=b0x xs (tv xs a 4).toNat (ta xs a 4)
theorem d9k (H:Sep w0 w l)(hi:l[i]?=some (TB g A n c a))(hI:Ints w0 A n xs)(ha:a≤n):
  Calls prog 42 #[.pointer (some ⟨g,0,none⟩)] w fun e w'=>e=.returned (.int .i64 (kNum xs a).1)∧∃ l1,KT l i (TB g A n c (kNum xs a).2) l1∧Sep w0 w' l1:=by
 have HXL:=Hd hI.len;have HI:=Hd hI;have HH:=Hd H;have KI:=Hd hi;have hnle:=hI.le;clear H hi hI
 go_enter func42,ntmps42
 go_wp2_with fail
 refine(a5i 9 HH KI HI ha ⟨by omega,by omega⟩).mono ?_;rintro ew1 w1 ⟨rfl,l1,hKl1,hSl1⟩;obtain⟨r,hr⟩:∃ r,tv xs a 9=r:=⟨_,rfl⟩;obtain⟨a1,ha1⟩:∃ r,ta xs a 9=r:=⟨_,rfl⟩;have br0:=a1a xs a 9;have br1:=a4l xs a (show(0:Int)<9 by omega);have ba1:=a2e 9 HXL ha;rw[hr] at br0 br1 ⊢;rw[ha1] at ba1 hKl1;have HRr:=Hd hr;have HAa1:=Hd ha1;have H1:=Hd hSl1;have HKl1:=Hd hKl1;clear hr ha1 hSl1 hKl1;by_cases h0:r=0
 ·subst h0;have H2:=Hd (H1.lit 2 #[.int .i64 9223372036854775807,.int .i64 (-9223372036854775808),.int .i64 4611686018427387904,.int .i64 (-1099511627776),.int .i64 8589934592,.int .i64 3037000500] a8s 6 w1.heap.size rfl rfl (by decide))
  go_wp2_with fail
  refine(a5i 6 H2 (i:=i+1) HKl1.out.1 HI ba1 ⟨by omega,by omega⟩).mono ?_;rintro e3 w3 ⟨rfl,l3,hK3,hS3⟩;obtain rfl:=hK3.eq;obtain⟨q,hq⟩:∃ q,tv xs a1 6=q:=⟨_,rfl⟩;have q0:=a1a xs a1 6;have q1:=a4l xs a1 (show(0:Int)<6 by omega);rw[hq] at q0 q1 ⊢;obtain⟨qn,rfl⟩:=eZ q0;obtain⟨x,hx,hf⟩:=c6x qn (by omega);have HV:=Hd (show kNum xs a=(x,ta xs a1 6) by rw[kNum,HRr.out,iP rfl,HAa1.out,hq,Int.toNat_natCast,gD,hx];rfl);have hS4:Sep w0 w3 (.own 2 (.slice (some ⟨w1.heap.size,0,none⟩) 6 6) 6 a8s::l1.set i (TB g A n c (ta xs a1 6))):=hS3;have hcz:=(hS4.own 0 rfl).cell hx;have H4:=Hd hS4.tail_;have hqn:qn<6:=by omega
  clear hx hq hS3 hS4 hK3 q0 q1 H2;go_wp2;go_ret;exact⟨by rw[HV.out];rfl,_,by rw[HV.out];exact HKl1.trans_ (KT.mk_ HKl1.out.1),H4⟩
 have d0:(r==0)=false:=by simpa using h0
 by_cases h1:r=1
 ·subst h1;have HV:=Hd (show kNum xs a=(0,a1) by rw[kNum,HRr.out,iN (by omega),iP rfl,HAa1.out]);go_wp2;go_ret;exact⟨by rw[HV.out];rfl,_,by rw[HV.out];exact HKl1,H1⟩
 ·have d1:(r==1)=false:=by simpa using h1
  have HN:=Hd (And.intro h0 h1);clear h0 h1
  go_wp2_with fail
  refine(a5i 19 H1 HKl1.out.1 HI ba1 ⟨by omega,by omega⟩).mono ?_;rintro ew2 w2 ⟨rfl,l2,hKl2,hSl2⟩;obtain⟨q,hq⟩:∃ r,tv xs a1 19=r:=⟨_,rfl⟩;obtain⟨a2,ha2⟩:∃ r,ta xs a1 19=r:=⟨_,rfl⟩;have bq0:=a1a xs a1 19;have bq1:=a4l xs a1 (show(0:Int)<19 by omega);have ba2:=a2e 19 HXL ba1;rw[hq] at bq0 bq1 ⊢;rw[ha2] at ba2 hKl2;have HRq:=Hd hq;have HAa2:=Hd ha2;have H2:=Hd hSl2;have HKl2:=Hd hKl2;clear hq ha2 hSl2 hKl2;have HV:=Hd (show kNum xs a=(q-9,a2) by rw[kNum,HRr.out,iN HN.out.1,iN HN.out.2,HAa1.out,HRq.out,HAa2.out]);go_wp2;go_ret;exact⟨by rw[HV.out];rfl,_,by rw[HV.out];exact HKl1.trans_ HKl2,H2⟩
theorem e1b (H:Sep w0 w l)(hi:l[i]?=some (TB g A n c a))(hI:Ints w0 A n xs)(ha:a≤n):
  Calls prog 41 #[.pointer (some ⟨g,0,none⟩)] w fun e w'=>∃ v m,e=.returned v∧∃ l1,KT l i (TB g A n c (a3g xs a).2) l1∧Sep w0 w' (.own 3 v m (a3g xs a).1::l1):=by
 have HXL:=Hd hI.len;have HI:=Hd hI;have HH:=Hd (H.addNil 3);have KI:=Hd hi;have hnle:=hI.le;clear H hi hI
 go_enter func41,ntmps41
 go_wp2_with fail
 refine(a5i 4 HH (i:=i+1) KI HI ha ⟨by omega,by omega⟩).mono ?_;rintro e1 w1 ⟨rfl,l1,hK1,hS1⟩;obtain rfl:=hK1.eq;have b0:=a1a xs a 4;have b1:=a4l xs a (show(0:Int)<4 by omega);obtain⟨r,hr⟩:∃ r,tv xs a 4=r:=⟨_,rfl⟩;rw[hr] at b0 b1 ⊢;obtain⟨rn,rfl⟩:=eZ b0;obtain⟨a1,ha1⟩:∃ r,ta xs a 4=r:=⟨_,rfl⟩;have ba1:=a2e 4 HXL ha;rw[ha1] at ba1 hS1;have HV:=Hd (show a3g xs a=b0x xs rn a1 by rw[a3g,hr,ha1,Int.toNat_natCast]);have H1:=Hd (show Sep w0 w1 (oN::l.set i (TB g A n c a1)) from hS1);have HKK:=Hd (KT.mk_ (b:=TB g A n c a1) KI);clear hr ha1 hS1 hK1 HH
 go_wp2_with fail
 go_loopw [3,4] (fun sv nv wr=>∃(j:Nat) (acc:List Int) (a2:Nat) (vx:Value) (l1:List a0c),vx=sv∧nv=.int .i64 j∧acc.length+j≤3∧a2≤n∧(acc++(b0x xs j a2).1,(b0x xs j a2).2)=b0x xs rn a1∧KT l i (TB g A n c a2) l1∧Sep w0 wr (.own 3 vx acc.length acc::l1)) (fun _ nv _=>(intOf nv).toNat)
 case atStart=>exact⟨rn,[],a1,_,_,rfl,rfl,by simp;omega,ba1,rfl,HKK,H1⟩
 case round =>
  clear H1;obtain⟨j,acc,a2,vx,l1,rfl,rfl,hjl,ba2,hq,hK,hS⟩:=hrel;have H:=Hd hS;have HK:=Hd hK;have HQ:=Hd hq;clear hS hK hq;by_cases hj:0<j
  ·obtain⟨j,rfl⟩:∃ k,j=k+1:=⟨j-1,by omega⟩;have H2:=Hd (H.lit 3 #[.int .i64 1,.int .i64 2,.int .i64 3,.int .i64 4,.int .i64 5,.int .i64 0,.int .i64 7,.int .i64 2] b4c 8 wr.heap.size rfl rfl (by decide))
   go_wp2_with fail
   refine(a5i 8 H2 (i:=i+2) HK.out.1 HI ba2 ⟨by omega,by omega⟩).mono ?_;rintro e3 w3 ⟨rfl,l3,hK3,hS3⟩;obtain rfl:=hK3.eq;have q0:=a1a xs a2 8;have q1:=a4l xs a2 (show(0:Int)<8 by omega);obtain⟨q,hq⟩:∃ q,tv xs a2 8=q:=⟨_,rfl⟩;rw[hq] at q0 q1 ⊢;obtain⟨qn,rfl⟩:=eZ q0;obtain⟨x,hx,hx0,hx7⟩:=e0l qn (by omega);obtain⟨a3,ha3⟩:∃ r,ta xs a2 8=r:=⟨_,rfl⟩;have ba3:=a2e 8 HXL ba2;rw[ha3] at ba3 hS3;have HQ2:=Hd (show((acc++[x])++(b0x xs j a3).1,(b0x xs j a3).2)=b0x xs rn a1 by have h7:=HQ.out;rw[b0x,hq,ha3,Int.toNat_natCast,gD,hx] at h7;rw[List.append_assoc];exact h7);have hS4:Sep w0 w3 (.own 3 (.slice (some ⟨wr.heap.size,0,none⟩) 8 8) 8 b4c::.own 3 vx acc.length acc::l1.set i (TB g A n c a3)):=hS3;have hcz:=(hS4.own 0 rfl).cell hx;have H4:=Hd hS4;have hqn:qn<8:=by omega
   have HK4:=Hd (HK.trans_ (KT.mk_ (b:=TB g A n c a3) HK.out.1));clear hx hq ha3 hS3 hS4 hK3 q0 q1 H2 H
   go_wp2_with (at_builtin;refine a0x rfl (.tmp 11) (.tmp 17) 22 3 rfl underlying22 Tryz.infoInt H4.out 1 rfl rfl x ⟨by omega,by omega⟩ _ rfl ?c1 ?_)
   case c1=>omega
   intro v' w' h';have H8:=Hd (Sep.tail_ h');clear h' hcz;go_wp2;go_roundw
   case rel=>exact⟨j,acc++[x],a3,_,_,rfl,by go_num,by rw[List.length_append,List.length_singleton];omega,ba3,HQ2,HK4,by rw[List.length_append,List.length_singleton];exact H8⟩
   case measure=>simp[intOf]
  ·obtain rfl:j=0:=by omega
   have HE:=Hd (show a3g xs a=(acc,a2) by rw[HV.out,←HQ.out,b0x,List.append_nil]);go_wp2;go_ret;rw[HE.out];exact⟨_,_,rfl,_,HK,H⟩
end Go.Proofs.YtjblengklgkgfaaGreat
