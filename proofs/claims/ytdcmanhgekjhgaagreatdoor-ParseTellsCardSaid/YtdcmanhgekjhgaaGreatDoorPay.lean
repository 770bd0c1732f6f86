import Derived.Test.YtdcmanhgekjhgaaGreatDoorPax
set_option maxRecDepth 100000
set_option maxHeartbeats 12800000
namespace Go.Proofs.YtdcmanhgekjhgaaGreatDoor
open Go.RowKit Go.Proofs.Tryz
variable {A:Option Addr} {T a b s:ByteArray} {c n:Nat} {l nm:List Int} {w w' w0:World} {x:Int}
theorem Tryz.infoR9:(prog.info? 21).map (fun i=>(i.zero,i.size,i.bytes))=some (some (.int .i32 0),1,4):=by kernel_rfl
theorem d3d (w:World)(s:ByteArray)(hs:s.size≤17592186044000):
  Calls prog 131 #[.string s] w fun e w'=>(∃ v n,e=.returned v∧a2u w' w.heap.size 21 v n (a0a s))∧Below w.heap.size w w':=by
 have C0:=c3v s w hs;have HS:=Hd hs;clear hs
 go_enter func131,ntmps131
 go_wp2_with fail
 refine C0.mono ?_;rintro e1 w1 ⟨⟨N,hN,rfl⟩,hb1⟩;have hmk:=c0t (t:=93) (e:=21) underlying93 Tryz.infoR9 (n:=N) (by have:=HS.out;omega);have hz1:=hb1.size;have hOm:=d3m (base:=w.heap.size) w1 hz1 21 N (by have:=HS.out;omega);have hBm:=hb1.alloc hz1 (.cells (a6n N) 21);have hzm:(w1.alloc (.cells (a6n N) 21)).heap.size=w1.heap.size+1:=by simp
 have hR:=a6e (w1.alloc (.cells (a6n N) 21)) s;have hOi:=hOm.alloc (.stringIter s 0);have hBi:=hBm.alloc (by rw[hzm];omega) (.stringIter s 0);rw[hzm] at hR;have HR:=Hd hR;have HO:=Hd hOi;have HB:=Hd hBi;have hK:w.heap.size<w1.heap.size+1:=by omega
 have HK:=Hd hK;clear hR hOi hBi hOm hBm hzm hz1 C0 hb1 hK
 go_wp2_with fail
 go_loopw [3] (fun v wr=>∃(pos k:Nat),RIt wr (w1.heap.size+1) s pos k∧a2u wr w.heap.size 21 v k ((a0a s).take k)∧Below w.heap.size w wr) (fun _ wr=>s.size-wr.iterPos (w1.heap.size+1))
 case atStart=>exact⟨0,0,HR,HO,HB⟩
 case round =>
  obtain⟨pos,k,hI,hO,hB⟩:=hrel;have HI:=Hd hI;have HOW:=Hd hO;have HBW:=Hd hB;by_cases hlt:pos<s.size
  ·obtain⟨w2,r,d,hnx,hI2,hd,hx,hf,hB2,hg⟩:=b6o hI hlt hB (by have:=HK.out;omega);have hO2:=hO.grownNe hg (fun j hj=>by have:=hO.apartIter hI.1;intro e;injection e with e;subst e;exact this hj);have HI2:=Hd hI2;have HO2:=Hd hO2;have HB2:=Hd hB2;have HF:=Hd hf;have HX:=Hd hx;have hkb:=d8e hI hlt;have hs:=HS.out;clear hI hI2 hO hO2 hB hB2 hf hg hx
   go_wp2_with (at_builtin;refine a7y rfl _ _ 93 21 rfl underlying93 Tryz.infoR9 w.heap.size _ k _ rfl HO2.out ?c1 r ?c2 _ rfl ?c3 ?_)
   case c1=>exact HB2.size
   case c2=>exact HF
   case c3=>omega
   intro v' w3 hO3 hB3 hg3;have hI3:=c6p HI2 hg3 (HO2.apartIter HI2.out.1);have hB4:=HB2.trans hB3;have HI3:=Hd hI3;have HO3:=Hd hO3;have HB4:=Hd hB4;clear hI3 hB3 hg3 hO3 hB4 hnx;go_wp2;go_roundw
   case rel=>exact⟨pos+d,k+1,HI3,by rw[List.take_add_one,HX.out];exact HO3,HB4⟩
   case measure=>rw[a1l HI3.out,a1l HI.out];omega
  ·have hnx:=a7w hI hlt;have he:=c3u hI hlt;have HE:=Hd he;clear hI hO hB he;go_wp2;go_ret;exact⟨⟨_,k,rfl,by have:=HOW.out;rwa [List.take_of_length_le HE.out] at this⟩,HBW⟩
theorem c5u (r:Int)(hs:s.size≤17592186044000):
  Calls prog 127 #[.string s,.int .i32 r] w fun e w'=>e=.returned (.int .i64 (a4w (a0a s) r))∧Below w.heap.size w w':=by
 have HR:=Hd (a6e w s);have HB:=Hd (show Below w.heap.size w (w.iter s 0) from(Below.refl _ _).alloc (Nat.le_refl _) _);have HS:=Hd hs;clear hs
 go_enter func127,ntmps127
 go_wp2_with fail
 go_loopw [5] (fun v wr=>∃(pos k:Nat),v=.int .i64 k∧RIt wr w.heap.size s pos k∧r∉(a0a s).take k∧Below w.heap.size w wr) (fun _ wr=>s.size-wr.iterPos w.heap.size)
 case atStart=>exact⟨0,0,rfl,HR,by simp,HB⟩
 case round =>
  obtain⟨pos,k,rfl,hI,hno,hB⟩:=hrel;have HI:=Hd hI;have HN:=Hd hno;have HBW:=Hd hB;clear hno;by_cases hlt:pos<s.size
  ·obtain⟨w2,x,d,hnx,hI2,hd,hx,hf,hB2,hg⟩:=b6o hI hlt hB (Nat.le_refl _);have HI2:=Hd hI2;have HB2:=Hd hB2;have HX:=Hd hx;have hkb:=d8e hI hlt;have hs:=HS.out;clear hI hI2 hB hB2 hf hg hx;by_cases hxr:x=r
   ·subst hxr;have HV:=Hd (c2u HX HN);go_wp2;go_ret;exact⟨by rw[HV.out];rfl,HB2⟩
   ·have dxr:(x==r)=false:=by simpa using hxr
    have HXR:=Hd hxr;clear hxr;go_wp2;go_roundw
    case rel=>exact⟨pos+d,k+1,by go_num,HI2,by
     rw[List.take_add_one,HX.out];intro hm;rcases List.mem_append.1 hm with hm|hm
     ·exact HN hm
     ·exact HXR (List.mem_singleton.1 hm).symm,HB2⟩
    case measure=>rw[a1l HI2.out,a1l HI.out];omega
  ·have hnx:=a7w hI hlt;have HV:=Hd (show a4w (a0a s) r = -1 from c0z (by have h1:=HN.out;rwa [List.take_of_length_le (c3u hI hlt)] at h1));clear hI hB;go_wp2;go_ret;exact⟨by rw[HV.out];rfl,HBW⟩
open Classical in
noncomputable def d2r (x:Int):Bool:=decide (¬ badR x)
theorem c5h (h:¬ badR x):d2r x=true:=by unfold d2r;simpa using h
theorem a8x (h:badR x):d2r x=false:=by unfold d2r;simpa using h
theorem e1u (x:Int):
  Calls prog 126 #[.int .i32 x] w fun e w'=>e=.returned (.bool (d2r x))∧w=w':=by
 by_cases b1:x=46
 ·subst b1;have HG:=Hd (a8x (x:=46) (by unfold badR;omega))
  go_enter func126,ntmps126
  go_wp2;go_ret;exact⟨by rw[HG.out];rfl,by trivial⟩
 by_cases b2:x=45
 ·subst b2;have HG:=Hd (a8x (x:=45) (by unfold badR;omega))
  go_enter func126,ntmps126
  go_wp2;go_ret;exact⟨by rw[HG.out];rfl,by trivial⟩
 by_cases b3:x=40
 ·subst b3;have HG:=Hd (a8x (x:=40) (by unfold badR;omega))
  go_enter func126,ntmps126
  go_wp2;go_ret;exact⟨by rw[HG.out];rfl,by trivial⟩
 by_cases b4:x=41
 ·subst b4;have HG:=Hd (a8x (x:=41) (by unfold badR;omega))
  go_enter func126,ntmps126
  go_wp2;go_ret;exact⟨by rw[HG.out];rfl,by trivial⟩
 by_cases b5:x=65533
 ·subst b5;have HG:=Hd (a8x (x:=65533) (by unfold badR;omega))
  go_enter func126,ntmps126
  go_wp2;go_ret;exact⟨by rw[HG.out];rfl,by trivial⟩
 have d1:(x==46)=false:=by simpa using b1
 have d2:(x==45)=false:=by simpa using b2
 have d3:(x==40)=false:=by simpa using b3
 have d4:(x==41)=false:=by simpa using b4
 have d5:(x==65533)=false:=by simpa using b5
 have HG:=Hd (show decide ((33:Int)≤x)=d2r x by
  by_cases b0:x<33
  ·rw[a8x (by unfold badR;omega)];simp;omega
  ·rw[c5h (by unfold badR;omega)];simp;omega)
 clear b1 b2 b3 b4 b5
 go_enter func126,ntmps126
 go_wp2;go_ret;exact⟨by rw[←HG.out];rfl,by trivial⟩
theorem d3c (nn:Int)(hs:s.size≤17592186044000):
  Calls prog 102 #[.string s,.int .i64 nn] w fun e w'=>e=.returned (.bool (a7v (a0a s) nn))∧Below w.heap.size w w':=by
 have HR:=Hd (a6e w s);have HB:=Hd (show Below w.heap.size w (w.iter s 0) from(Below.refl _ _).alloc (Nat.le_refl _) _);have HS:=Hd hs;clear hs
 go_enter func102,ntmps102
 by_cases g0:nn<0
 ·have dg0:decide (nn<0)=true:=by simpa using g0
  have HX:=Hd (a4u (l:=a0a s) (n:=nn) (fun h=>by have:=h.1;omega));go_wp2;go_ret;exact⟨a0c HX.symm,Below.refl _ _⟩
 have dg0:decide (nn<0)=false:=by simpa using g0
 by_cases g1:3<nn
 ·have dg1:decide (3<nn)=true:=by simpa using g1
  have HX:=Hd (a4u (l:=a0a s) (n:=nn) (fun h=>by have:=h.2.1;omega));go_wp2;go_ret;exact⟨a0c HX.symm,Below.refl _ _⟩
 have dg1:decide (3<nn)=false:=by simpa using g1
 go_wp2_with fail
 go_loopw [5] (fun v wr=>∃(pos k:Nat),v=.int .i64 k∧(k:Int)≤nn∧k≤(a0a s).length∧RIt wr w.heap.size s pos k∧(∀ j,j<k→c7v (a0a s) j)∧Below w.heap.size w wr) (fun _ wr=>s.size-wr.iterPos w.heap.size)
 case atStart=>exact⟨0,0,rfl,by omega,by omega,HR,fun j hj=>by omega,HB⟩
 case round =>
  obtain⟨pos,k,rfl,hk3,hkl9,hI,hall,hB⟩:=hrel;have HI:=Hd hI;have HALL:=Hd hall;have HBW:=Hd hB;clear hall;by_cases hlt:pos<s.size
  ·obtain⟨w2,x,d,hnx,hI2,hd,hx,hf,hB2,hg⟩:=b6o hI hlt hB (Nat.le_refl _);have HI2:=Hd hI2;have HB2:=Hd hB2;have HX:=Hd hx;have hkb:=d8e hI hlt;have hs:=HS.out;have hkl:k<(a0a s).length:=(lL hx);have HBAD:=Hd (show ¬(¬ badR x∧a4w (a0a s) x=k)→a7v (a0a s) nn=false from fun hb=>a4u fun h=>hb (h.2.2.2 k x HX));clear hI hI2 hB hB2 hf hg hx;by_cases gk:(k:Int)=nn
   ·have dgk:((k:Int)==nn)=true:=by simpa using gk
    have HV:=Hd (a4u (l:=a0a s) (n:=nn) (fun h=>by have:=h.2.2.1;omega));go_wp2;go_ret;exact⟨a0c HV.symm,HB2⟩
   have dgk:((k:Int)==nn)=false:=by simpa using gk
   have CM:=fun w:World=>e1u (w:=w) x
   by_cases bx:badR x
   ·have HV:=Hd (HBAD (fun h=>h.1 bx));simp only[a8x bx] at CM;clear bx
    go_wp2_with fail
    refine(CM _).mono ?_;rintro e3 w3 ⟨rfl,rfl⟩;clear CM;go_wp2;go_ret;exact⟨a0c HV.symm,HB2⟩
   have HNB:=Hd bx;simp only[c5h bx] at CM;clear bx;have CF:=c5u (w:=w2) (s:=s) x HS;obtain⟨f,hf2⟩:∃ f,a4w (a0a s) x=f:=⟨_,rfl⟩;rw[hf2] at CF;have HF:=Hd hf2;have hfb:=b6h (a0a s) x;rw[hf2] at hfb;clear hf2
   go_wp2_with fail
   refine(CM _).mono ?_;rintro e3 w3 ⟨rfl,rfl⟩;clear CM
   go_wp2_with fail
   refine CF.mono ?_;rintro e4 w4 ⟨rfl,hb4⟩;have HI4:=Hd (b0l HI2 hb4 (b5y HI2));have HB4:=Hd (a1c HB2 hb4);clear CF hb4;by_cases gf:f<(k:Int)
   ·have dgf:decide (f<(k:Int))=true:=by simpa using gf
    have HV:=Hd (HBAD (fun h=>by have:=h.2;rw[HF.out] at this;omega));go_wp2;go_ret;exact⟨a0c HV.symm,HB4⟩
   have dgf:decide (f<(k:Int))=false:=by simpa using gf
   have HFK:=Hd (show a4w (a0a s) x=k by
    have hm:a4w (a0a s) x≤k:=by
     by_cases hin:x∈(a0a s).take k
     ·exact Int.le_of_lt (e0g hin)
     ·rw[c2u HX.out hin];exact Int.le_refl _
    rw[HF.out] at hm ⊢;omega)
   go_wp2;go_roundw
   case rel=>exact⟨pos+d,k+1,by go_num,by omega,by omega,HI4,fun j hj=>by
    rcases Nat.lt_or_ge j k with h|h
    ·exact HALL j h
    ·obtain rfl:j=k:=by omega
     intro y hy;rw[HX.out] at hy;injection hy with hy
     subst hy
     exact⟨HNB,HFK⟩,HB4⟩
   case measure=>rw[a1l HI4.out,a1l HI.out];omega
  ·have hnx:=a7w hI hlt;have hle:=c3u hI hlt
   have HV:=Hd (show((k:Int)==nn)=a7v (a0a s) nn by
    by_cases gk:(k:Int)=nn
    ·rw[b1m ⟨by omega,by omega,by omega,fun j x hj=>by
      rcases Nat.lt_or_ge j k with h|h
      ·exact HALL j h x hj
      ·have:=(lL hj);omega⟩]
     simpa using gk
    ·rw[a4u (fun h=>gk (by have:=h.2.2.1;omega))]
     simpa using gk)
   clear hI hB hle;go_wp2;go_ret;exact⟨a0c HV,HBW⟩
theorem c1s {rank:Int}(g:a2v nm [] l=none):a4n nm l rank=([],false,14):=by
 rcases Nat.lt_or_ge 16 l.length with h|h
 ·exact a6s h
 ·exact a8o h g
theorem c6a {t:ByteArray}(rank:Int)(hs:s.size≤17592186044000)(ht:t.size≤17592186044000):
  Calls prog 108 #[.string s,.string t,.int .i64 rank] w fun e w'=>(∃ v m,e=.returned (.tuple #[v,.bool (a4n (a0a s) (a0a t) rank).2.1,.int .i64 (a4n (a0a s) (a0a t) rank).2.2])∧OwnS w' w.heap.size 3 v m (a4n (a0a s) (a0a t) rank).1)∧Below w.heap.size w w':=by
 have HR:=Hd (a6e w t);have HB:=Hd (show Below w.heap.size w (w.iter t 0) from(Below.refl _ _).alloc (Nat.le_refl _) _);have HZ:=Hd (show w.heap.size+1≤(w.iter t 0).heap.size by simp[World.iter]);have HS:=Hd hs;have HT:=Hd ht;obtain⟨nm,hnm⟩:∃ l,a0a s=l:=⟨_,rfl⟩;have HNM:=Hd hnm;have HNB:=Hd (show nm.length≤17592186044000 by rw[←hnm];exact Nat.le_trans (b2a s) hs);rw[hnm];clear hs ht hnm
 go_enter func108,ntmps108
 go_wp2_with fail
 go_loopw [9,10] (fun sv cv wr=>∃(pos k m:Nat) (out:List Int),cv=.int .i64 k∧k≤16∧m≤k∧k≤(a0a t).length∧RIt wr w.heap.size t pos k∧OwnS wr (w.heap.size+1) 3 sv m out∧a2v nm [] (a0a t)=a2v nm out ((a0a t).drop k)∧w.heap.size+1≤wr.heap.size∧Below w.heap.size w wr) (fun _ _ wr=>t.size-wr.iterPos w.heap.size)
 case atStart=>exact⟨0,0,0,[],rfl,by omega,by omega,by omega,HR,OwnS.nil_ _ _ _,rfl,HZ,HB⟩
 case round =>
  obtain⟨pos,k,m,out,rfl,hk,hm,hkl9,hI,hO,hnl,hz,hB⟩:=hrel;have HI:=Hd hI;have HNL:=Hd hnl;have HBW:=Hd hB;have HZW:=Hd hz;clear hnl hz;by_cases hlt:pos<t.size
  ·obtain⟨w2,x,d,hnx,hI2,hd,hx,hf,hB2,hg⟩:=b6o hI hlt hB (Nat.le_refl _);have hO2:=hO.grown hg (by omega);have HI2:=Hd hI2;have HO2:=Hd hO2;have HB2:=Hd hB2;have HX:=Hd hx;have HZ2:=Hd (show w.heap.size+1≤w2.heap.size by have:=hg.size;have:=HZW.out;omega);have hkl:k<(a0a t).length:=(lL hx);clear hI hI2 hO hO2 hB hB2 hf hg hx;by_cases g0:16<k+1
   ·have dg0:decide (16<k+1)=true:=by simpa using g0
    have HV:=Hd (a6s (nm:=nm) (l:=a0a t) (rank:=rank) (by omega));go_wp2;go_ret3;rw[HV.out];exact⟨⟨_,0,rfl,OwnS.nil_ _ _ _⟩,HB2⟩
   have dg0:decide (16<k+1)=false:=by simpa using g0
   by_cases b0:x=32
   ·subst b0;have HQ:=Hd (HNL.trans (b8l (out:=out) HX));go_wp2;go_roundw
    case rel=>exact⟨pos+d,k+1,m,out,by go_num,by omega,by omega,by omega,HI2,HO2,HQ,HZ2,HB2⟩
    case measure=>rw[a1l HI2.out,a1l HI.out];omega
   have db0:(x==32)=false:=by simpa using b0
   have CF:=c5u (w:=w2) (s:=s) x HS;rw[HNM.out] at CF;have HB0:=Hd b0;clear b0
   go_wp2_with fail
   refine CF.mono ?_;rintro e4 w4 ⟨rfl,hb4⟩;have HI4:=Hd (b0l HI2 hb4 (b5y HI2));have HO4:=Hd (HO2.below hb4);have HZ4:=Hd (show w.heap.size+1≤w4.heap.size from Nat.le_trans HZ2 hb4.size);have HB4:=Hd (a1c HB2 hb4);have HOL:=Hd HO4.len;clear CF hb4;obtain⟨f,hf2⟩:∃ f,a4w nm x=f:=⟨_,rfl⟩;have HF:=Hd hf2;have hfb:=b6h nm x;rw[hf2] at hfb ⊢;clear hf2;have hnb:=HNB.out;by_cases b1:x=46
   ·subst b1;have HQ:=Hd (HNL.trans (b8n (out:=out) HX))
    go_wp2_with (at_builtin;refine a2m rfl _ _ 25 3 rfl underlying25 Tryz.infoInt9 (w.heap.size+1) _ m out rfl HO4.out HZ4.out (-1) ⟨by omega,by omega⟩ _ rfl ?c1 ?_)
    case c1=>omega
    intro v' w' h1 h2 h3;have HI5:=Hd (b0l HI4 h2 (by omega));have G1:=Hd h1;have G2:=Hd (HB4.trans (h2.mono (by omega)));have GZ:=Hd (show w.heap.size+1≤w'.heap.size from Nat.le_trans HZ4 h2.size);clear h1 h2 h3;go_wp2;go_roundw
    case rel=>exact⟨pos+d,k+1,m+1,out++[-1],by go_num,by omega,by omega,by omega,HI5,G1,HQ,GZ,G2⟩
    case measure=>rw[a1l HI5.out,a1l HI.out];omega
   have db1:(x==46)=false:=by simpa using b1
   have HB1:=Hd b1;clear b1;by_cases b2:f<0
   ·have db2:decide (f<0)=true:=by simpa using b2
    have HV:=Hd (c1s (rank:=rank) (HNL.trans (c1r HX HB0 HB1 (by rw[HF.out];exact b2))));go_wp2;go_ret3;rw[HV.out];exact⟨⟨_,0,rfl,OwnS.nil_ _ _ _⟩,HB4⟩
   have db2:decide (f<0)=false:=by simpa using b2
   have HB2':=Hd (show ¬ a4w nm x<0 by rw[HF.out];exact b2);have CC:=c4y HO4 f;by_cases b3:f∈out
   ·have HV:=Hd (c1s (rank:=rank) (HNL.trans (b8p HX HB0 HB1 HB2' (by rw[HF.out];exact b3))));rw[show out.contains f=true from by simpa using b3] at CC;clear b3
    go_wp2_with fail
    refine CC.mono ?_;rintro e5 w5 ⟨rfl,rfl⟩;clear CC;go_wp2;go_ret3;rw[HV.out];exact⟨⟨_,0,rfl,OwnS.nil_ _ _ _⟩,HB4⟩
   have HQ:=Hd (HNL.trans (c1q (out:=out) HX HB0 HB1 HB2' (by rw[HF.out];exact b3)));rw[show out.contains f=false from by simpa using b3] at CC;clear b3
   go_wp2_with fail
   refine CC.mono ?_;rintro e5 w5 ⟨rfl,rfl⟩;clear CC
   go_wp2_with (at_builtin;refine a2m rfl _ _ 25 3 rfl underlying25 Tryz.infoInt9 (w.heap.size+1) _ m out rfl HO4.out HZ4.out f ⟨by omega,by omega⟩ _ rfl ?c1 ?_)
   case c1=>omega
   intro v' w' h1 h2 h3;have HI5:=Hd (b0l HI4 h2 (by omega));have G1:=Hd h1;have G2:=Hd (HB4.trans (h2.mono (by omega)));have GZ:=Hd (show w.heap.size+1≤w'.heap.size from Nat.le_trans HZ4 h2.size);clear h1 h2 h3;go_wp2;go_roundw
   case rel=>exact⟨pos+d,k+1,m+1,out++[f],by go_num,by omega,by omega,by omega,HI5,G1,by rw[←HF.out];exact HQ,GZ,G2⟩
   case measure=>rw[a1l HI5.out,a1l HI.out];omega
  ·have hnx:=a7w hI hlt;have hle:=c3u hI hlt;have HN16:=Hd (show(a0a t).length≤16 by omega);have HE:=Hd (HNL.trans (c6b (out:=out) hle));have HOL:=Hd hO.len;have HOW:=Hd (hO.mono (by omega:w.heap.size≤w.heap.size+1));obtain⟨Ao,co,hv,hco,_,_⟩:=hO.form;subst hv;clear hI hO hB hle;by_cases m0:m=0
   ·have dm0:((m:Int)==0)=true:=by simpa using m0
    have HOU:out=[]:=List.eq_nil_of_length_eq_zero (by rw[HOL.out];exact m0);have HV:=Hd (a3x (rank:=rank) HN16 (by rw[HE.out,HOU]));clear HOU;clear m0;go_wp2;go_ret3;rw[HV.out];exact⟨⟨_,0,rfl,OwnS.nil_ _ _ _⟩,HBW⟩
   have dm0:((m:Int)==0)=false:=by simpa using m0
   have HNE:=Hd (show out≠[] from fun h=>m0 (by have:=HOL.out;rw[h] at this;simpa using this.symm));clear m0;by_cases r0:(m:Int)=rank
   ·subst r0;have dr0:((m:Int) != (m:Int))=false:=by simp
    have HV:=Hd (a9c (rank:=(m:Int)) HN16 HE HNE (by rw[HOL.out]));go_wp2;go_ret3;rw[HV.out];exact⟨⟨_,m,rfl,HOW⟩,HBW⟩
   ·have dr0:((m:Int) != rank)=true:=by simpa using r0
    have HV:=Hd (a8p (rank:=rank) HN16 HE HNE (by rw[HOL.out];exact r0));go_wp2;go_ret3;rw[HV.out];exact⟨⟨_,0,rfl,OwnS.nil_ _ _ _⟩,HBW⟩
theorem d7f {spec:List Int}(hs:s.size≤17592186044000)(hA:Ints w A n spec)(hn:n≤17592186044000):
  Calls prog 109 #[.string s,.slice A n c] w fun e w'=>e=.returned (.string (a3q (a0a s) spec))∧Below w.heap.size w w':=by
 have C1:=d3d w s hs;obtain⟨nm,hnm⟩:∃ l,a0a s=l:=⟨_,rfl⟩;rw[hnm] at C1 ⊢;clear hnm hs;have HA:=Hd hA;have HAL:=Hd hA.len;have HAN:=Hd hn;clear hA hn
 go_enter func109,ntmps109
 go_wp2_with fail
 refine C1.mono ?_;rintro e1 w1 ⟨⟨v,m,rfl,hO⟩,hb⟩;obtain⟨R,rc,rfl,hrc,hI,_⟩:=hO.form;have HB:=Hd hb;have H1:=Hd hI.len;have HI:=Hd hI;have HS:=Hd (HA.below hb);have hle:=hI.le;have HF:=Hd (c4x w1);have HBF:=Hd (show Below w1.heap.size w1 (w1.alloc (.cells #[.pointer none,.slice none 0 0] 112)) from(Below.refl _ _).alloc (Nat.le_refl _) _);clear C1 hO hb hI
 go_wp2_with fail
 go_loopw [13] (fun i wr=>∃ k:Nat,k≤n∧i=.int .i64 k∧Bld w1.heap.size (a3q nm (spec.take k)).data.toList wr∧Below w1.heap.size w1 wr) (fun i _=>n-(intOf i).toNat)
 case atStart=>exact⟨0,Nat.zero_le _,rfl,HF,HBF⟩
 case round =>
  obtain⟨k,hk,rfl,hbl,hB⟩:=hrel;have HBL:=Hd hbl;have HBW:=Hd hB;have HSW:=Hd (HS.below hB);have HIW:=Hd (HI.below hB);have HZ:=Hd hB.size;clear hbl hB;by_cases hlt:k<n
  ·obtain⟨sa,x,rfl,_,hx,hcx,hfx⟩:=HSW.at_ hlt;have HST:=Hd (c2g (nm:=nm) hx);have hsz:=a8t nm (spec.take k);rw[List.length_take] at hsz;have hn9:=HAN.out
   have HLB:=Hd (show(a3q nm (spec.take k)).data.toList.length+4≤140737488355328 by
    have:(a3q nm (spec.take k)).data.toList.length=(a3q nm (spec.take k)).size:=by simp
    omega)
   clear hx hsz;by_cases b0:x<0∨(m:Int)≤x
   ·have HQ:=Hd (show a3q nm (spec.take (k+1))=a3q nm (spec.take k)++Utf8.encode 46 by rw[HST.out,c3z (by have:=H1.out;omega)];rfl);have CW:=b6y w1.heap.size _ 46 (by omega) wr HBL HLB HZ;rw[d5n,←HQ.out] at CW;have HCW:=Hd CW;clear CW;by_cases b1:x<0
    ·have db1:decide ((0:Int)≤x)=false:=by simp;omega
     clear b0
     go_wp2_with fail
     refine HCW.mono ?_;rintro e3 w3 ⟨⟨n3,rfl⟩,hl3,hb3,_⟩;have G1:=Hd hl3;have G2:=Hd (HBW.trans hb3);clear hl3 hb3;go_wp2;go_roundw
     case rel=>exact⟨k+1,by omega,by go_num,G1,G2⟩
     case measure=>simp[intOf];omega
    ·have db1:decide ((0:Int)≤x)=true:=by simp;omega
     have db2:decide (x<(m:Int))=false:=by simp;omega
     obtain⟨xn,rfl⟩:=eZ (by omega:0≤x);have db3:decide (xn<m)=false:=by simp;omega
     clear b0
     go_wp2_with fail
     refine HCW.mono ?_;rintro e3 w3 ⟨⟨n3,rfl⟩,hl3,hb3,_⟩;have G1:=Hd hl3;have G2:=Hd (HBW.trans hb3);clear hl3 hb3;go_wp2;go_roundw
     case rel=>exact⟨k+1,by omega,by go_num,G1,G2⟩
     case measure=>simp[intOf];omega
   ·obtain⟨xn,rfl⟩:=eZ (by omega:0≤x);have hxm:xn<m:=by omega
    have db1:decide (xn<m)=true:=by simpa using hxm
    clear b0;obtain⟨ra,y,rfl,_,hy,hcy,hfy⟩:=HIW.at_ hxm;have HQ:=Hd (show a3q nm (spec.take (k+1))=a3q nm (spec.take k)++Utf8.encode y by rw[HST.out,c6z hy]);have CW:=b6y w1.heap.size _ y hfy wr HBL HLB HZ;rw[d5n,←HQ.out] at CW;have HCW:=Hd CW;clear CW hy
    go_wp2_with fail
    refine HCW.mono ?_;rintro e3 w3 ⟨⟨n3,rfl⟩,hl3,hb3,_⟩;have G1:=Hd hl3;have G2:=Hd (HBW.trans hb3);clear hl3 hb3;go_wp2;go_roundw
    case rel=>exact⟨k+1,by omega,by go_num,G1,G2⟩
    case measure=>simp[intOf];omega
  ·have hkn:k=n:=by omega
   subst hkn;have HE:=Hd (show spec.take k=spec from List.take_of_length_le (by have:=HAL.out;omega));have CS:=b2v w1.heap.size _ wr HBL HZ;rw[HE.out,e4l] at CS;have HCS:=Hd CS;clear CS
   go_wp2_with fail
   refine HCS.mono ?_;rintro e3 w3 ⟨rfl,hb3⟩;have G2:=Hd (HBW.trans hb3);clear hb3;go_wp2;go_ret;exact⟨rfl,a1c HB G2⟩
def a6m (T T0:ByteArray):Prop:=T=T0∨(65536<T.size∧T.size≤T0.size)
theorem a6m.refl (T:ByteArray):a6m T T:=.inl rfl
theorem a6m.trans {c:ByteArray}(h:a6m a b)(g:a6m b c):a6m a c:=by
 rcases h with rfl|⟨h1,h2⟩
 ·exact g
 ·rcases g with rfl|⟨g1,g2⟩
  ·exact .inr ⟨h1,h2⟩
  ·exact .inr ⟨h1,by omega⟩
theorem a6m.add (h:a6m a b)(s:ByteArray):a6m (a++s) (b++s):=by
 rcases h with rfl|⟨h1,h2⟩
 ·exact .refl _
 ·exact .inr ⟨by rw[ByteArray.size_append];omega,by rw[ByteArray.size_append,ByteArray.size_append];omega⟩
theorem a6m.le (h:a6m a b):a.size≤b.size:=by
 rcases h with rfl|⟨_,h2⟩
 ·exact Nat.le_refl _
 ·exact h2
theorem a7d:∀(l:List Int) (o:ByteArray),a3j o l=o++a3j ⟨#[]⟩ l
 | [],o=>(ByteArray.append_empty).symm
 | x::l,o=>by
  have e1:a3j o (x::l)=a3j (o++spT++numT x) l:=rfl;have e2:a3j ⟨#[]⟩ (x::l)=a3j (⟨#[]⟩++spT++numT x) l:=rfl;rw[e1,e2,a7d l,a7d l (⟨#[]⟩++spT++numT x)];have e3:(⟨#[]⟩:ByteArray)++spT=spT:=ByteArray.empty_append;rw[e3];simp only[ByteArray.append_assoc]
theorem a6m.nums (h:a6m a b)(l:List Int):a6m (a3j a l) (a3j b l):=by
 rw[a7d l a,a7d l b];exact h.add _
theorem e1b (T:ByteArray)(l:List Int):a3j (T++spT++⟨#[40]⟩) l++spT++⟨#[41]⟩=T++a7c l:=by
 rw[a7c,a7d l (T++spT++⟨#[40]⟩),a7d l b8r];have e1:spT++⟨#[40]⟩=b8r:=rfl;have e2:spT++⟨#[41]⟩=e5o:=rfl;rw[←e1,←e2];simp only[ByteArray.append_assoc]
def orT (s:ByteArray):ByteArray:=if s=⟨#[]⟩ then a4d else s
theorem d2k (r:Int):0<(Utf8.encode r).size:=by
 have h:1≤(Lib.encodeRune r).length:=by have:=(Lib.encodeRuneZ_length r).1;simpa [Lib.encodeRune] using this
 have e:(Utf8.encode r).size=(Lib.encodeRune r).length:=by rw[←c2t r,Array.length_toList];rfl
 omega
theorem d8m (nm:List Int)(x:Int):0<(a7k nm x).size:=by
 rw[a7k];split
 ·exact d2k _
 ·exact(by decide:0<(⟨#[46]⟩:ByteArray).size)
theorem c5e (nm:List Int):∀(l:List Int) (o:ByteArray),0<o.size→0<(l.foldl (fun o x=>o++a7k nm x) o).size
 | [],o,h=>h
 | x::l,o,h=>c5e nm l _ (by rw[ByteArray.size_append];omega)
theorem c7g (h:l≠[]):a3q nm l≠⟨#[]⟩:=by
 cases l with
 | nil=>exact absurd rfl h
 | cons x l =>
  have:=c5e nm l (ByteArray.empty++a7k nm x) (by rw[ByteArray.size_append];have:=d8m nm x;omega);intro e;have e2:a3q nm (x::l)=l.foldl (fun o x=>o++a7k nm x) (ByteArray.empty++a7k nm x):=rfl;rw[←e2,e] at this;exact absurd this (by decide)
theorem e2h (nm:List Int)(t:ByteArray)(rank:Int):orT (a3q nm (a4n nm (a0a t) rank).1)=a4o nm t rank:=by
 unfold a4o orT;by_cases h:16<(a0a t).length
 ·rw[a6s h];rfl
 ·cases g:a2v nm [] (a0a t) with
  | none=>rw[a8o (by omega) g];rfl
  | some out =>
   by_cases he:out=[]
   ·subst he;rw[a3x (by omega) g];rfl
   ·by_cases hr:(out.length:Int)=rank
    ·rw[a9c (by omega) g he hr,iN (c7g he)];rfl
    ·rw[a8p (by omega) g he hr];rfl
def TabO (w:World):Prop:=w.var? prog "parquetry/wire.ops" = some (opN.map Value.string).toArray
theorem TabO.below (h:TabO w)(hb:Below w.heap.size w w'):TabO w':=Joins.var_stays (g:=0) (by kernel_rfl) h hb (Nat.le_refl _)
theorem TabO.cell (h:TabO w){k:Nat}{v:Value}(hk:(opN.map Value.string)[k]?=some v):w.cell? ⟨0,k,none⟩=some v:=by
 have:=World.var?_cell (P:=prog) (show prog.globalNamed "parquetry/wire.ops" = some 0 by kernel_rfl) h k;rw[this];simpa using hk
def Tabs (w:World):Prop:=TabP w∧TabO w
theorem Tabs.below (h:Tabs w)(hb:Below w.heap.size w w'):Tabs w':=⟨h.1.below hb,h.2.below hb⟩
def Wb (w0 w:World) (T:ByteArray):Prop:=BldT w0.heap.size T w∧Below w0.heap.size w0 w
def a6h (w0 w w' : World):Prop:=Lib.OthersKept 5 (some w0.heap.size) w w'
theorem Wb.le (h:Wb w0 w T):w0.heap.size≤w.heap.size:=h.2.size
theorem d5c {b:Nat}{l:List UInt8}(h:Bld b l w)(hb:Below w.heap.size w w'):Bld b l w':=by
 have key:∀ p,Lib.BuilderAtF 112 5 b b p (Lib.byteCells l) w→Lib.BuilderAtF 112 5 b b p (Lib.byteCells l) w':=by
  rintro p ⟨h0,v,hk,⟨h1,h2⟩,h3⟩;refine⟨h0,v,(hb.block b (a2y hk)).trans hk,⟨h1,?_⟩,h3⟩;rcases h2 with h2|⟨g,cap,cur,fz,e1,e2,e3,e4⟩
  ·exact .inl h2
  ·exact .inr ⟨g,cap,cur,fz,e1,e2,(hb.block g (a2y e3)).trans e3,e4⟩
 rcases h with h|h
 ·exact .inl (key _ h)
 ·exact .inr (key _ h)
theorem Wb.below (h:Wb w0 w T)(hb:Below w.heap.size w w'):Wb w0 w' T:=⟨d5c h.1 hb,a1c h.2 hb⟩
theorem a9a (hb:Below w.heap.size w w'):a6h w0 w w':=fun k _ hk _ _=>(hb.block k (a2y hk)).trans hk
theorem a6h.trans {a b c:World}(h:a6h w0 a b)(g:a6h w0 b c):a6h w0 a c:=Lib.OthersKept.trans h g
theorem a6h.refl (w0 w:World):a6h w0 w w:=Lib.OthersKept.refl _ _ _
theorem a6h.box {g:Nat}{c:Array Value}{t:TypeId}{fz:Nat × Nat}(h:a6h w0 w w')(hk:w.heap[g]?=some (.cells c t fz))(hg:g≠w0.heap.size)(ht:t≠5):w'.heap[g]?=some (.cells c t fz) :=
 h g _ hk (fun e=>hg (Option.some.inj e)) (fun c' fz' e=>by injection e with _ e2 _;exact ht e2)
theorem Wb.fresh (w:World):Wb w (w.alloc (.cells #[.pointer none,.slice none 0 0] 112)) ⟨#[]⟩:=⟨d2h w,(Below.refl _ _).alloc (Nat.le_refl _) _⟩
theorem b6q (s:ByteArray)(h:Wb w0 w T)(hl:T.size+s.size≤140737488355328):
  Calls prog 66 #[.pointer (some ⟨w0.heap.size,0,none⟩),.string s] w fun e w'=>(∃ n:Nat,e=.returned (.tuple #[.int .i64 n,.nilIface]))∧Wb w0 w' (T++s)∧a6h w0 w w':=by
 refine(d2g w0.heap.size T s w h.1 hl h.le).mono ?_;rintro e w' ⟨h1,h2,h3,h4⟩;exact⟨h1,⟨h2,h.2.trans h3⟩,h4⟩
theorem c7p (c:Int)(u:ByteArray)(hu:u.data.toList=[c.toNat.toUInt8])(hc:0≤c∧c<256)(h:Wb w0 w T)(hl:T.size+1≤140737488355328):
  Calls prog 105 #[.pointer (some ⟨w0.heap.size,0,none⟩),.int .u8 c] w fun e w'=>e=.returned .nilIface∧Wb w0 w' (T++u)∧a6h w0 w w':=by
 refine(c7y w0.heap.size T c u hu hc w h.1 hl h.le).mono ?_;rintro e w' ⟨h1,h2,h3,h4⟩;exact⟨h1,⟨h2,h.2.trans h3⟩,h4⟩
theorem d1z (h:Wb w0 w T):
  Calls prog 73 #[.pointer (some ⟨w0.heap.size,0,none⟩)] w fun e w'=>e=.returned (.int .i64 T.size)∧w'=w:=d2f _ _ _ h.1
theorem c9z (h:Wb w0 w T):
  Calls prog 74 #[.pointer (some ⟨w0.heap.size,0,none⟩)] w fun e w'=>e=.returned (.string T)∧Below w0.heap.size w0 w':=by
 refine(c7z _ _ _ h.1 h.le).mono ?_;rintro e w' ⟨h1,h2⟩;exact⟨h1,h.2.trans h2⟩
theorem a5y {n:Int}(hn:Fits n)(hT:Tabs w):
  Calls prog 59 #[.int .i64 n] w fun e w'=>e=.returned (.string (numT n))∧Below w.heap.size w w':=by
 have C:=d2l hn hT.1
 go_enter func59,ntmps59
 go_wp2_with fail
 refine C.mono ?_;rintro e1 w1 ⟨rfl,hb⟩;have HB:=Hd hb;clear C hb;go_wp2;go_ret;exact⟨rfl,HB⟩
theorem c7q (w:World){op:Int}(hop:Fits op)(hT:Tabs w):
  Calls prog 106 #[.int .i64 op] w fun e w'=>e=.returned (.string (a5s op))∧w'=w:=by
 have HT:=Hd hT;clear hT
 go_enter func106,ntmps106
 by_cases h1:op<1
 ·have d1:decide (op<1)=true:=decide_eq_true h1;have HQ:=Hd (show a5s op=⟨#[]⟩ by rw[a5s,iP (.inl h1)]);go_wp2;go_ret;exact⟨by rw[HQ.out];rfl,rfl⟩
 have d1:decide (op<1)=false:=decide_eq_false h1;by_cases h2:20<op
 ·have d2:decide (20<op)=true:=decide_eq_true h2;have HQ:=Hd (show a5s op=⟨#[]⟩ by rw[a5s,iP (.inr h2)]);go_wp2;go_ret;exact⟨by rw[HQ.out];rfl,rfl⟩
 have d2:decide (20<op)=false:=decide_eq_false h2;obtain⟨k,rfl⟩:=eZ (show 0≤op by omega);have hk1:1≤k:=by omega
 have hk2:k≤20:=by omega
 have d3:decide (k<1)=false:=decide_eq_false (by omega);have d4:decide (20<k)=false:=decide_eq_false (by omega);clear h1 h2;have c1:=HT.out.2.cell (c3f hk1 hk2);have d5:decide (21≤k)=false:=decide_eq_false (by omega);have hk3:k<21:=by omega
 go_wp2;go_ret;exact⟨rfl,rfl⟩
theorem d9o (w:World)(s:ByteArray):Calls prog 68 #[.string s] w fun e w'=>e=.returned (.string (orT s))∧w'=w:=by
 go_enter func68,ntmps68
 by_cases hne:s=⟨#[]⟩
 ·subst hne;go_wp2;go_ret;exact⟨rfl,rfl⟩
 ·have hem0:s.toList.isEmpty=false:=by
   cases he:s.toList.isEmpty with
   | false=>rfl
   | true =>
    exfalso;apply hne
    have:=List.isEmpty_iff.1 he;apply ByteArray.ext;rw[ByteArray.toList_eq] at this;exact Array.toList_inj.1 this
  have HQ:=Hd (show orT s=s by rw[orT,iN hne]);clear hne;go_wp2;go_ret;exact⟨by rw[HQ.out];rfl,rfl⟩
theorem a7l (s:ByteArray)(h:Wb w0 w T)(hl:T.size+s.size<140737488355328):
  Calls prog 67 #[.pointer (some ⟨w0.heap.size,0,none⟩),.string s] w fun e w'=>e=.returned (.tuple #[])∧Wb w0 w' (T++spT++s)∧a6h w0 w w':=by
 have H1:=Hd (c7p (w:=w) 32 spT rfl (by omega) h (by omega));have HS:=Hd (show(T++spT).size+s.size≤140737488355328 by rw[ByteArray.size_append];have:spT.size=1:=rfl;omega);clear h
 go_enter func67,ntmps67
 go_wp2_with fail
 refine H1.mono ?_;rintro e1 w1 ⟨rfl,h1,k1⟩;have HK:=Hd k1;have H2:=Hd (b6q s h1 HS);clear h1 k1
 go_wp2_with fail
 refine H2.mono ?_;rintro e2 w2 ⟨⟨m,rfl⟩,h2,k2⟩;have HW:=Hd h2;replace HK:=Hd (HK.trans k2);clear h2 k2;go_wp2
 go_end0
 exact⟨rfl,HW,HK⟩
theorem c4j (h:Wb w0 w T)(hl:T.size<140737488355328):
  Calls prog 70 #[.pointer (some ⟨w0.heap.size,0,none⟩)] w fun e w'=>e=.returned (.tuple #[])∧Wb w0 w' (T++lfT)∧a6h w0 w w':=by
 have H1:=Hd (c7p (w:=w) 10 lfT rfl (by omega) h (by omega));clear h
 go_enter func70,ntmps70
 go_wp2_with fail
 refine H1.mono ?_;rintro e1 w1 ⟨rfl,h1,k1⟩;have HK:=Hd k1;have HW:=Hd h1;clear h1 k1;go_wp2
 go_end0
 exact⟨rfl,HW,HK⟩
theorem b9x {xs:List Int}(hI:Ints w0 A n xs)(hT:Tabs w0)(h:Wb w0 w T)(hl:T.size+22*n<140737488355328):
  Calls prog 69 #[.pointer (some ⟨w0.heap.size,0,none⟩),.slice A n c] w fun e w'=>e=.returned (.tuple #[])∧∃ T', a6m T' (a3j T xs)∧Wb w0 w' T'∧a6h w0 w w':=by
 have HI:=Hd hI;have HT:=Hd hT;have HL:=Hd hI.len;have hle:=hI.le;have HW:=Hd h;have HS:=Hd hl;clear hI hT h hl
 go_enter func69,ntmps69
 go_wp2_with fail
 go_loopw [8] (fun iv wr=>∃ k:Nat,k≤n∧iv=.int .i64 k∧Wb w0 wr (a3j T (xs.take k))∧a6h w0 w wr) (fun iv _=>n-(intOf iv).toNat)
 case atStart=>exact⟨0,Nat.zero_le _,rfl,HW,a6h.refl _ _⟩
 case round =>
  obtain⟨k,hk,rfl,hw,hkk⟩:=hrel;have hsz:=a4s xs k T (by have:=HL.out;omega);have HWR:=Hd hw;have HKR:=Hd hkk;clear hw hkk;by_cases hlt:k<n
  ·obtain⟨sa,x,rfl,_,hx,hcx,hfx⟩:=(HI.below HWR.out.2).at_ hlt;have HST:=Hd (b1k T hx);have HN:=Hd (a4s xs k T (by have:=HL.out;omega));obtain⟨T1,hT1⟩:∃ T1,a3j T (xs.take k)=T1:=⟨_,rfl⟩;rw[hT1] at hsz HST HWR;have HT1:=Hd hT1;have HX:=Hd hfx;have HL1:=Hd (d1z HWR);have hs9:=HS.out;clear hx hT1 hfx
   go_wp2_with fail
   refine HL1.mono ?_;rintro e1 w1 ⟨rfl,rfl⟩;by_cases hbig:65536<T1.size
   ·have db:decide ((65536:Int)<(T1.size:Int))=true:=decide_eq_true (by omega);have HBG:=Hd hbig;clear hbig hs9;go_wp2;refine bodyPost_ret (results_none rfl _ _ _) rfl ?_;refine⟨rfl,T1,?_,HWR,HKR⟩;rw[←HT1.out];refine .inr ⟨by rw[HT1.out];exact HBG,?_⟩
    conv=>rhs;rw[←List.take_append_drop k xs]
    rw[show a3j T (xs.take k++xs.drop k)=a3j (a3j T (xs.take k)) (xs.drop k) from List.foldl_append,a7d (xs.drop k),ByteArray.size_append];omega
   ·have db:decide ((65536:Int)<(T1.size:Int))=false:=decide_eq_false (by omega);have HC:=Hd (a5y (w:=w1) HX (HT.below HWR.out.2));have hnx:=a3y x;obtain⟨D,hD⟩:∃ D,numT x=D:=⟨_,rfl⟩;rw[hD] at HC hnx HST;clear hD
    go_wp2_with fail
    refine HC.mono ?_;rintro e2 w2 ⟨rfl,hb2⟩;have HW2:=Hd (HWR.below hb2);have HK2:=Hd (HKR.trans (a9a hb2));have HC3:=Hd (a7l D HW2 (by omega));clear hb2
    go_wp2_with fail
    refine HC3.mono ?_;rintro e3 w3 ⟨rfl,h3,k3⟩;have HW3:=Hd h3;have HK3:=Hd (HK2.trans k3);clear h3 k3 hs9;go_wp2;go_roundw
    case rel=>exact⟨k+1,by omega,by go_num,by rw[HST.out];exact HW3,HK3⟩
    case measure=>simp[intOf];omega
  ·have hkn:k=n:=by omega
   subst hkn;have HE:=Hd (show xs.take k=xs from List.take_of_length_le (by have:=HL.out;omega));clear hsz;go_wp2
   go_end0
   exact⟨rfl,a3j T xs,a6m.refl _,by have:=HWR.out;rwa [HE.out] at this,HKR⟩
end Go.Proofs.YtdcmanhgekjhgaaGreatDoor
