import Derived.Test.YtdcmanhgekjhgaaDoorPan
set_option maxRecDepth 100000
set_option maxHeartbeats 12800000
namespace Go.Proofs.YtdcmanhgekjhgaaDoor
open Go.RowKit Go.Proofs.Tryd
variable {s:ByteArray} {w:World} {x:Int}
theorem Tryd.infoR9:(prog.info? 21).map (fun i=>(i.zero,i.size,i.bytes))=some (some (.int .i32 0),1,4):=by kernel_rfl
theorem b8q (w:World)(s:ByteArray)(hs:s.size≤17592186044000):
  Calls prog 61 #[.string s] w fun e w'=>(∃ v n,e=.returned v∧a1d w' w.heap.size 21 v n (a0a s))∧Below w.heap.size w w':=by
 have C0:=b2o s w hs;have HS:=Hd hs;clear hs
 go_enter func61,ntmps61
 go_wp2_with fail
 refine C0.mono ?_;rintro e1 w1 ⟨⟨N,hN,rfl⟩,hb1⟩;have hmk:=b1d (t:=110) (e:=21) underlying110 Tryd.infoR9 (n:=N) (by have:=HS.out;omega);have hz1:=hb1.size;have hOm:=b8z (base:=w.heap.size) w1 hz1 21 N (by have:=HS.out;omega);have hBm:=hb1.alloc hz1 (.cells (a2s N) 21);have hzm:(w1.alloc (.cells (a2s N) 21)).heap.size=w1.heap.size+1:=by simp
 have hR:=a2i (w1.alloc (.cells (a2s N) 21)) s;have hOi:=hOm.alloc (.stringIter s 0);have hBi:=hBm.alloc (by rw[hzm];omega) (.stringIter s 0);rw[hzm] at hR;have HR:=Hd hR;have HO:=Hd hOi;have HB:=Hd hBi;have hK:w.heap.size<w1.heap.size+1:=by omega
 have HK:=Hd hK;clear hR hOi hBi hOm hBm hzm hz1 C0 hb1 hK
 go_wp2_with fail
 go_loopw [3] (fun v wr=>∃(pos k:Nat),RIt wr (w1.heap.size+1) s pos k∧a1d wr w.heap.size 21 v k ((a0a s).take k)∧Below w.heap.size w wr) (fun _ wr=>s.size-wr.iterPos (w1.heap.size+1))
 case atStart=>exact⟨0,0,HR,HO,HB⟩
 case round =>
  obtain⟨pos,k,hI,hO,hB⟩:=hrel;have HI:=Hd hI;have HOW:=Hd hO;have HBW:=Hd hB;by_cases hlt:pos<s.size
  ·obtain⟨w2,r,d,hnx,hI2,hd,hx,hf,hB2,hg⟩:=a8s hI hlt hB (by have:=HK.out;omega);have hO2:=hO.grownNe hg (fun j hj=>by have:=hO.apartIter hI.1;intro e;injection e with e;subst e;exact this hj);have HI2:=Hd hI2;have HO2:=Hd hO2;have HB2:=Hd hB2;have HF:=Hd hf;have HX:=Hd hx;have hkb:=c2g hI hlt;have hs:=HS.out;clear hI hI2 hO hO2 hB hB2 hf hg hx
   go_wp2_with (at_builtin;refine a6y rfl _ _ 110 21 rfl underlying110 Tryd.infoR9 w.heap.size _ k _ rfl HO2.out ?c1 r ?c2 _ rfl ?c3 ?_)
   case c1=>exact HB2.size
   case c2=>exact HF
   case c3=>omega
   intro v' w3 hO3 hB3 hg3;have hI3:=b4g HI2 hg3 (HO2.apartIter HI2.out.1);have hB4:=HB2.trans hB3;have HI3:=Hd hI3;have HO3:=Hd hO3;have HB4:=Hd hB4;clear hI3 hB3 hg3 hO3 hB4 hnx;go_wp2;go_roundw
   case rel=>exact⟨pos+d,k+1,HI3,by rw[List.take_add_one,HX.out];exact HO3,HB4⟩
   case measure=>rw[a0o HI3.out,a0o HI.out];omega
  ·have hnx:=a3l hI hlt;have he:=b2m hI hlt;have HE:=Hd he;clear hI hO hB he;go_wp2;go_ret;exact⟨⟨_,k,rfl,by have:=HOW.out;rwa [List.take_of_length_le HE.out] at this⟩,HBW⟩
theorem b3u (r:Int)(hs:s.size≤17592186044000):
  Calls prog 57 #[.string s,.int .i32 r] w fun e w'=>e=.returned (.int .i64 (a2p (a0a s) r))∧Below w.heap.size w w':=by
 have HR:=Hd (a2i w s);have HB:=Hd (show Below w.heap.size w (w.iter s 0) from(Below.refl _ _).alloc (Nat.le_refl _) _);have HS:=Hd hs;clear hs
 go_enter func57,ntmps57
 go_wp2_with fail
 go_loopw [5] (fun v wr=>∃(pos k:Nat),v=.int .i64 k∧RIt wr w.heap.size s pos k∧r∉(a0a s).take k∧Below w.heap.size w wr) (fun _ wr=>s.size-wr.iterPos w.heap.size)
 case atStart=>exact⟨0,0,rfl,HR,by simp,HB⟩
 case round =>
  obtain⟨pos,k,rfl,hI,hno,hB⟩:=hrel;have HI:=Hd hI;have HN:=Hd hno;have HBW:=Hd hB;clear hno;by_cases hlt:pos<s.size
  ·obtain⟨w2,x,d,hnx,hI2,hd,hx,hf,hB2,hg⟩:=a8s hI hlt hB (Nat.le_refl _);have HI2:=Hd hI2;have HB2:=Hd hB2;have HX:=Hd hx;have hkb:=c2g hI hlt;have hs:=HS.out;clear hI hI2 hB hB2 hf hg hx;by_cases hxr:x=r
   ·subst hxr;have HV:=Hd (b6w HX HN);go_wp2;go_ret;exact⟨by rw[HV.out];rfl,HB2⟩
   ·have dxr:(x==r)=false:=by simpa using hxr
    have HXR:=Hd hxr;clear hxr;go_wp2;go_roundw
    case rel=>exact⟨pos+d,k+1,by go_num,HI2,by
     rw[List.take_add_one,HX.out];intro hm;rcases List.mem_append.1 hm with hm|hm
     ·exact HN hm
     ·exact HXR (List.mem_singleton.1 hm).symm,HB2⟩
    case measure=>rw[a0o HI2.out,a0o HI.out];omega
  ·have hnx:=a3l hI hlt;have HV:=Hd (show a2p (a0a s) r = -1 from b8a (by have h1:=HN.out;rwa [List.take_of_length_le (b2m hI hlt)] at h1));clear hI hB;go_wp2;go_ret;exact⟨by rw[HV.out];rfl,HBW⟩
open Classical in
noncomputable def b8g (x:Int):Bool:=decide (¬ badR x)
theorem b3o (h:¬ badR x):b8g x=true:=by unfold b8g;simpa using h
theorem a4f (h:badR x):b8g x=false:=by unfold b8g;simpa using h
theorem c4w (x:Int):
  Calls prog 56 #[.int .i32 x] w fun e w'=>e=.returned (.bool (b8g x))∧w=w':=by
 by_cases b1:x=46
 ·subst b1;have HG:=Hd (a4f (x:=46) (by unfold badR;omega))
  go_enter func56,ntmps56
  go_wp2;go_ret;exact⟨by rw[HG.out];rfl,by trivial⟩
 by_cases b2:x=45
 ·subst b2;have HG:=Hd (a4f (x:=45) (by unfold badR;omega))
  go_enter func56,ntmps56
  go_wp2;go_ret;exact⟨by rw[HG.out];rfl,by trivial⟩
 by_cases b3:x=40
 ·subst b3;have HG:=Hd (a4f (x:=40) (by unfold badR;omega))
  go_enter func56,ntmps56
  go_wp2;go_ret;exact⟨by rw[HG.out];rfl,by trivial⟩
 by_cases b4:x=41
 ·subst b4;have HG:=Hd (a4f (x:=41) (by unfold badR;omega))
  go_enter func56,ntmps56
  go_wp2;go_ret;exact⟨by rw[HG.out];rfl,by trivial⟩
 by_cases b5:x=65533
 ·subst b5;have HG:=Hd (a4f (x:=65533) (by unfold badR;omega))
  go_enter func56,ntmps56
  go_wp2;go_ret;exact⟨by rw[HG.out];rfl,by trivial⟩
 have d1:(x==46)=false:=by simpa using b1
 have d2:(x==45)=false:=by simpa using b2
 have d3:(x==40)=false:=by simpa using b3
 have d4:(x==41)=false:=by simpa using b4
 have d5:(x==65533)=false:=by simpa using b5
 have HG:=Hd (show decide ((33:Int)≤x)=b8g x by
  by_cases b0:x<33
  ·rw[a4f (by unfold badR;omega)];simp;omega
  ·rw[b3o (by unfold badR;omega)];simp;omega)
 clear b1 b2 b3 b4 b5
 go_enter func56,ntmps56
 go_wp2;go_ret;exact⟨by rw[←HG.out];rfl,by trivial⟩
theorem b8p (nn:Int)(hs:s.size≤17592186044000):
  Calls prog 41 #[.string s,.int .i64 nn] w fun e w'=>e=.returned (.bool (a4v (a0a s) nn))∧Below w.heap.size w w':=by
 have HR:=Hd (a2i w s);have HB:=Hd (show Below w.heap.size w (w.iter s 0) from(Below.refl _ _).alloc (Nat.le_refl _) _);have HS:=Hd hs;clear hs
 go_enter func41,ntmps41
 by_cases g0:nn<0
 ·have dg0:decide (nn<0)=true:=by simpa using g0
  have HX:=Hd (a4b (l:=a0a s) (n:=nn) (fun h=>by have:=h.1;omega));go_wp2;go_ret;exact⟨a0i HX.symm,Below.refl _ _⟩
 have dg0:decide (nn<0)=false:=by simpa using g0
 by_cases g1:3<nn
 ·have dg1:decide (3<nn)=true:=by simpa using g1
  have HX:=Hd (a4b (l:=a0a s) (n:=nn) (fun h=>by have:=h.2.1;omega));go_wp2;go_ret;exact⟨a0i HX.symm,Below.refl _ _⟩
 have dg1:decide (3<nn)=false:=by simpa using g1
 go_wp2_with fail
 go_loopw [5] (fun v wr=>∃(pos k:Nat),v=.int .i64 k∧(k:Int)≤nn∧k≤(a0a s).length∧RIt wr w.heap.size s pos k∧(∀ j,j<k→b9t (a0a s) j)∧Below w.heap.size w wr) (fun _ wr=>s.size-wr.iterPos w.heap.size)
 case atStart=>exact⟨0,0,rfl,by omega,by omega,HR,fun j hj=>by omega,HB⟩
 case round =>
  obtain⟨pos,k,rfl,hk3,hkl9,hI,hall,hB⟩:=hrel;have HI:=Hd hI;have HALL:=Hd hall;have HBW:=Hd hB;clear hall;by_cases hlt:pos<s.size
  ·obtain⟨w2,x,d,hnx,hI2,hd,hx,hf,hB2,hg⟩:=a8s hI hlt hB (Nat.le_refl _);have HI2:=Hd hI2;have HB2:=Hd hB2;have HX:=Hd hx;have hkb:=c2g hI hlt;have hs:=HS.out;have hkl:k<(a0a s).length:=(lL hx);have HBAD:=Hd (show ¬(¬ badR x∧a2p (a0a s) x=k)→a4v (a0a s) nn=false from fun hb=>a4b fun h=>hb (h.2.2.2 k x HX));clear hI hI2 hB hB2 hf hg hx;by_cases gk:(k:Int)=nn
   ·have dgk:((k:Int)==nn)=true:=by simpa using gk
    have HV:=Hd (a4b (l:=a0a s) (n:=nn) (fun h=>by have:=h.2.2.1;omega));go_wp2;go_ret;exact⟨a0i HV.symm,HB2⟩
   have dgk:((k:Int)==nn)=false:=by simpa using gk
   have CM:=fun w:World=>c4w (w:=w) x
   by_cases bx:badR x
   ·have HV:=Hd (HBAD (fun h=>h.1 bx));simp only[a4f bx] at CM;clear bx
    go_wp2_with fail
    refine(CM _).mono ?_;rintro e3 w3 ⟨rfl,rfl⟩;clear CM;go_wp2;go_ret;exact⟨a0i HV.symm,HB2⟩
   have HNB:=Hd bx;simp only[b3o bx] at CM;clear bx;have CF:=b3u (w:=w2) (s:=s) x HS;obtain⟨f,hf2⟩:∃ f,a2p (a0a s) x=f:=⟨_,rfl⟩;rw[hf2] at CF;have HF:=Hd hf2;have hfb:=b2g (a0a s) x;rw[hf2] at hfb;clear hf2
   go_wp2_with fail
   refine(CM _).mono ?_;rintro e3 w3 ⟨rfl,rfl⟩;clear CM
   go_wp2_with fail
   refine CF.mono ?_;rintro e4 w4 ⟨rfl,hb4⟩;have HI4:=Hd (a4w HI2 hb4 (a8e HI2));have HB4:=Hd (a4o HB2 hb4);clear CF hb4;by_cases gf:f<(k:Int)
   ·have dgf:decide (f<(k:Int))=true:=by simpa using gf
    have HV:=Hd (HBAD (fun h=>by have:=h.2;rw[HF.out] at this;omega));go_wp2;go_ret;exact⟨a0i HV.symm,HB4⟩
   have dgf:decide (f<(k:Int))=false:=by simpa using gf
   have HFK:=Hd (show a2p (a0a s) x=k by
    have hm:a2p (a0a s) x≤k:=by
     by_cases hin:x∈(a0a s).take k
     ·exact Int.le_of_lt (c3w hin)
     ·rw[b6w HX.out hin];exact Int.le_refl _
    rw[HF.out] at hm ⊢;omega)
   go_wp2;go_roundw
   case rel=>exact⟨pos+d,k+1,by go_num,by omega,by omega,HI4,fun j hj=>by
    rcases Nat.lt_or_ge j k with h|h
    ·exact HALL j h
    ·obtain rfl:j=k:=by omega
     intro y hy;rw[HX.out] at hy;injection hy with hy
     subst hy
     exact⟨HNB,HFK⟩,HB4⟩
   case measure=>rw[a0o HI4.out,a0o HI.out];omega
  ·have hnx:=a3l hI hlt;have hle:=b2m hI hlt
   have HV:=Hd (show((k:Int)==nn)=a4v (a0a s) nn by
    by_cases gk:(k:Int)=nn
    ·rw[b1w ⟨by omega,by omega,by omega,fun j x hj=>by
      rcases Nat.lt_or_ge j k with h|h
      ·exact HALL j h x hj
      ·have:=(lL hj);omega⟩]
     simpa using gk
    ·rw[a4b (fun h=>gk (by have:=h.2.2.1;omega))]
     simpa using gk)
   clear hI hB hle;go_wp2;go_ret;exact⟨a0i HV,HBW⟩
theorem b1s {nm l:List Int}{rank:Int}(g:a1k nm [] l=none):a2b nm l rank=([],false,14):=by
 rcases Nat.lt_or_ge 16 l.length with h|h
 ·exact a3z h
 ·exact a6m h g
theorem b4a {t:ByteArray}(rank:Int)(hs:s.size≤17592186044000)(ht:t.size≤17592186044000):
  Calls prog 47 #[.string s,.string t,.int .i64 rank] w fun e w'=>(∃ v m,e=.returned (.tuple #[v,.bool (a2b (a0a s) (a0a t) rank).2.1,.int .i64 (a2b (a0a s) (a0a t) rank).2.2])∧OwnS w' w.heap.size 3 v m (a2b (a0a s) (a0a t) rank).1)∧Below w.heap.size w w':=by
 have HR:=Hd (a2i w t);have HB:=Hd (show Below w.heap.size w (w.iter t 0) from(Below.refl _ _).alloc (Nat.le_refl _) _);have HZ:=Hd (show w.heap.size+1≤(w.iter t 0).heap.size by simp[World.iter]);have HS:=Hd hs;have HT:=Hd ht;obtain⟨nm,hnm⟩:∃ l,a0a s=l:=⟨_,rfl⟩;have HNM:=Hd hnm;have HNB:=Hd (show nm.length≤17592186044000 by rw[←hnm];exact Nat.le_trans (b1e s) hs);rw[hnm];clear hs ht hnm
 go_enter func47,ntmps47
 go_wp2_with fail
 go_loopw [9,10] (fun sv cv wr=>∃(pos k m:Nat) (out:List Int),cv=.int .i64 k∧k≤16∧m≤k∧k≤(a0a t).length∧RIt wr w.heap.size t pos k∧OwnS wr (w.heap.size+1) 3 sv m out∧a1k nm [] (a0a t)=a1k nm out ((a0a t).drop k)∧w.heap.size+1≤wr.heap.size∧Below w.heap.size w wr) (fun _ _ wr=>t.size-wr.iterPos w.heap.size)
 case atStart=>exact⟨0,0,0,[],rfl,by omega,by omega,by omega,HR,OwnS.nil_ _ _ _,rfl,HZ,HB⟩
 case round =>
  obtain⟨pos,k,m,out,rfl,hk,hm,hkl9,hI,hO,hnl,hz,hB⟩:=hrel;have HI:=Hd hI;have HNL:=Hd hnl;have HBW:=Hd hB;have HZW:=Hd hz;clear hnl hz;by_cases hlt:pos<t.size
  ·obtain⟨w2,x,d,hnx,hI2,hd,hx,hf,hB2,hg⟩:=a8s hI hlt hB (Nat.le_refl _);have hO2:=hO.grown hg (by omega);have HI2:=Hd hI2;have HO2:=Hd hO2;have HB2:=Hd hB2;have HX:=Hd hx;have HZ2:=Hd (show w.heap.size+1≤w2.heap.size by have:=hg.size;have:=HZW.out;omega);have hkl:k<(a0a t).length:=(lL hx);clear hI hI2 hO hO2 hB hB2 hf hg hx;by_cases g0:16<k+1
   ·have dg0:decide (16<k+1)=true:=by simpa using g0
    have HV:=Hd (a3z (nm:=nm) (l:=a0a t) (rank:=rank) (by omega));go_wp2;go_ret3;rw[HV.out];exact⟨⟨_,0,rfl,OwnS.nil_ _ _ _⟩,HB2⟩
   have dg0:decide (16<k+1)=false:=by simpa using g0
   by_cases b0:x=32
   ·subst b0;have HQ:=Hd (HNL.trans (b5x (out:=out) HX));go_wp2;go_roundw
    case rel=>exact⟨pos+d,k+1,m,out,by go_num,by omega,by omega,by omega,HI2,HO2,HQ,HZ2,HB2⟩
    case measure=>rw[a0o HI2.out,a0o HI.out];omega
   have db0:(x==32)=false:=by simpa using b0
   have CF:=b3u (w:=w2) (s:=s) x HS;rw[HNM.out] at CF;have HB0:=Hd b0;clear b0
   go_wp2_with fail
   refine CF.mono ?_;rintro e4 w4 ⟨rfl,hb4⟩;have HI4:=Hd (a4w HI2 hb4 (a8e HI2));have HO4:=Hd (HO2.below hb4);have HZ4:=Hd (show w.heap.size+1≤w4.heap.size from Nat.le_trans HZ2 hb4.size);have HB4:=Hd (a4o HB2 hb4);have HOL:=Hd HO4.len;clear CF hb4;obtain⟨f,hf2⟩:∃ f,a2p nm x=f:=⟨_,rfl⟩;have HF:=Hd hf2;have hfb:=b2g nm x;rw[hf2] at hfb ⊢;clear hf2;have hnb:=HNB.out;by_cases b1:x=46
   ·subst b1;have HQ:=Hd (HNL.trans (b5y (out:=out) HX))
    go_wp2_with (at_builtin;refine a4d rfl _ _ 31 3 rfl underlying31 Tryd.infoInt9 (w.heap.size+1) _ m out rfl HO4.out HZ4.out (-1) ⟨by omega,by omega⟩ _ rfl ?c1 ?_)
    case c1=>omega
    intro v' w' h1 h2 h3;have HI5:=Hd (a4w HI4 h2 (by omega));have G1:=Hd h1;have G2:=Hd (HB4.trans (h2.mono (by omega)));have GZ:=Hd (show w.heap.size+1≤w'.heap.size from Nat.le_trans HZ4 h2.size);clear h1 h2 h3;go_wp2;go_roundw
    case rel=>exact⟨pos+d,k+1,m+1,out++[-1],by go_num,by omega,by omega,by omega,HI5,G1,HQ,GZ,G2⟩
    case measure=>rw[a0o HI5.out,a0o HI.out];omega
   have db1:(x==46)=false:=by simpa using b1
   have HB1:=Hd b1;clear b1;by_cases b2:f<0
   ·have db2:decide (f<0)=true:=by simpa using b2
    have HV:=Hd (b1s (rank:=rank) (HNL.trans (b8w HX HB0 HB1 (by rw[HF.out];exact b2))));go_wp2;go_ret3;rw[HV.out];exact⟨⟨_,0,rfl,OwnS.nil_ _ _ _⟩,HB4⟩
   have db2:decide (f<0)=false:=by simpa using b2
   have HB2':=Hd (show ¬ a2p nm x<0 by rw[HF.out];exact b2);have CC:=b3f HO4 f;by_cases b3:f∈out
   ·have HV:=Hd (b1s (rank:=rank) (HNL.trans (b5z HX HB0 HB1 HB2' (by rw[HF.out];exact b3))));rw[show out.contains f=true from by simpa using b3] at CC;clear b3
    go_wp2_with fail
    refine CC.mono ?_;rintro e5 w5 ⟨rfl,rfl⟩;clear CC;go_wp2;go_ret3;rw[HV.out];exact⟨⟨_,0,rfl,OwnS.nil_ _ _ _⟩,HB4⟩
   have HQ:=Hd (HNL.trans (b8v (out:=out) HX HB0 HB1 HB2' (by rw[HF.out];exact b3)));rw[show out.contains f=false from by simpa using b3] at CC;clear b3
   go_wp2_with fail
   refine CC.mono ?_;rintro e5 w5 ⟨rfl,rfl⟩;clear CC
   go_wp2_with (at_builtin;refine a4d rfl _ _ 31 3 rfl underlying31 Tryd.infoInt9 (w.heap.size+1) _ m out rfl HO4.out HZ4.out f ⟨by omega,by omega⟩ _ rfl ?c1 ?_)
   case c1=>omega
   intro v' w' h1 h2 h3;have HI5:=Hd (a4w HI4 h2 (by omega));have G1:=Hd h1;have G2:=Hd (HB4.trans (h2.mono (by omega)));have GZ:=Hd (show w.heap.size+1≤w'.heap.size from Nat.le_trans HZ4 h2.size);clear h1 h2 h3;go_wp2;go_roundw
   case rel=>exact⟨pos+d,k+1,m+1,out++[f],by go_num,by omega,by omega,by omega,HI5,G1,by rw[←HF.out];exact HQ,GZ,G2⟩
   case measure=>rw[a0o HI5.out,a0o HI.out];omega
  ·have hnx:=a3l hI hlt;have hle:=b2m hI hlt;have HN16:=Hd (show(a0a t).length≤16 by omega);have HE:=Hd (HNL.trans (c1s (out:=out) hle));have HOL:=Hd hO.len;have HOW:=Hd (hO.mono (by omega:w.heap.size≤w.heap.size+1));obtain⟨Ao,co,hv,hco,_,_⟩:=hO.form;subst hv;clear hI hO hB hle;by_cases m0:m=0
   ·have dm0:((m:Int)==0)=true:=by simpa using m0
    have HOU:out=[]:=List.eq_nil_of_length_eq_zero (by rw[HOL.out];exact m0);have HV:=Hd (a2z (rank:=rank) HN16 (by rw[HE.out,HOU]));clear HOU;clear m0;go_wp2;go_ret3;rw[HV.out];exact⟨⟨_,0,rfl,OwnS.nil_ _ _ _⟩,HBW⟩
   have dm0:((m:Int)==0)=false:=by simpa using m0
   have HNE:=Hd (show out≠[] from fun h=>m0 (by have:=HOL.out;rw[h] at this;simpa using this.symm));clear m0;by_cases r0:(m:Int)=rank
   ·subst r0;have dr0:((m:Int) != (m:Int))=false:=by simp
    have HV:=Hd (a6n (rank:=(m:Int)) HN16 HE HNE (by rw[HOL.out]));go_wp2;go_ret3;rw[HV.out];exact⟨⟨_,m,rfl,HOW⟩,HBW⟩
   ·have dr0:((m:Int) != rank)=true:=by simpa using r0
    have HV:=Hd (a5d (rank:=rank) HN16 HE HNE (by rw[HOL.out];exact r0));go_wp2;go_ret3;rw[HV.out];exact⟨⟨_,0,rfl,OwnS.nil_ _ _ _⟩,HBW⟩
theorem c1l {A:Option Addr}{n c:Nat}{spec:List Int}(hs:s.size≤17592186044000)(hA:Ints w A n spec)(hn:n≤17592186044000):
  Calls prog 48 #[.string s,.slice A n c] w fun e w'=>e=.returned (.string (a2e (a0a s) spec))∧Below w.heap.size w w':=by
 have C1:=b8q w s hs;obtain⟨nm,hnm⟩:∃ l,a0a s=l:=⟨_,rfl⟩;rw[hnm] at C1 ⊢;clear hnm hs;have HA:=Hd hA;have HAL:=Hd hA.len;have HAN:=Hd hn;clear hA hn
 go_enter func48,ntmps48
 go_wp2_with fail
 refine C1.mono ?_;rintro e1 w1 ⟨⟨v,m,rfl,hO⟩,hb⟩;obtain⟨R,rc,rfl,hrc,hI,_⟩:=hO.form;have HB:=Hd hb;have H1:=Hd hI.len;have HI:=Hd hI;have HS:=Hd (HA.below hb);have hle:=hI.le;have HF:=Hd (b3e w1);have HBF:=Hd (show Below w1.heap.size w1 (w1.alloc (.cells #[.pointer none,.slice none 0 0] 57)) from(Below.refl _ _).alloc (Nat.le_refl _) _);clear C1 hO hb hI
 go_wp2_with fail
 go_loopw [13] (fun i wr=>∃ k:Nat,k≤n∧i=.int .i64 k∧Bld w1.heap.size (a2e nm (spec.take k)).data.toList wr∧Below w1.heap.size w1 wr) (fun i _=>n-(intOf i).toNat)
 case atStart=>exact⟨0,Nat.zero_le _,rfl,HF,HBF⟩
 case round =>
  obtain⟨k,hk,rfl,hbl,hB⟩:=hrel;have HBL:=Hd hbl;have HBW:=Hd hB;have HSW:=Hd (HS.below hB);have HIW:=Hd (HI.below hB);have HZ:=Hd hB.size;clear hbl hB;by_cases hlt:k<n
  ·obtain⟨sa,x,rfl,_,hx,hcx,hfx⟩:=HSW.at_ hlt;have HST:=Hd (b9p (nm:=nm) hx);have hsz:=a7o nm (spec.take k);rw[List.length_take] at hsz;have hn9:=HAN.out
   have HLB:=Hd (show(a2e nm (spec.take k)).data.toList.length+4≤140737488355328 by
    have:(a2e nm (spec.take k)).data.toList.length=(a2e nm (spec.take k)).size:=by simp
    omega)
   clear hx hsz;by_cases b0:x<0∨(m:Int)≤x
   ·have HQ:=Hd (show a2e nm (spec.take (k+1))=a2e nm (spec.take k)++Utf8.encode 46 by rw[HST.out,c5l (by have:=H1.out;omega)];rfl);have CW:=a8y w1.heap.size _ 46 (by omega) wr HBL HLB HZ;rw[c0h,←HQ.out] at CW;have HCW:=Hd CW;clear CW;by_cases b1:x<0
    ·have db1:decide ((0:Int)≤x)=false:=by simp;omega
     clear b0
     go_wp2_with fail
     refine HCW.mono ?_;rintro e3 w3 ⟨⟨n3,rfl⟩,hl3,hb3,_⟩;have G1:=Hd hl3;have G2:=Hd (HBW.trans hb3);clear hl3 hb3;go_wp2;go_roundw
     case rel=>exact⟨k+1,by omega,by go_num,G1,G2⟩
     case measure=>simp[intOf];omega
    ·have db1:decide ((0:Int)≤x)=true:=by simp;omega
     have db2:decide (x<(m:Int))=false:=by simp;omega
     obtain⟨xn,rfl⟩:=eZ (by omega:0≤x);have db3:decide (xn<m)=false:=by simp;omega
     clear b0
     go_wp2_with fail
     refine HCW.mono ?_;rintro e3 w3 ⟨⟨n3,rfl⟩,hl3,hb3,_⟩;have G1:=Hd hl3;have G2:=Hd (HBW.trans hb3);clear hl3 hb3;go_wp2;go_roundw
     case rel=>exact⟨k+1,by omega,by go_num,G1,G2⟩
     case measure=>simp[intOf];omega
   ·obtain⟨xn,rfl⟩:=eZ (by omega:0≤x);have hxm:xn<m:=by omega
    have db1:decide (xn<m)=true:=by simpa using hxm
    clear b0;obtain⟨ra,y,rfl,_,hy,hcy,hfy⟩:=HIW.at_ hxm;have HQ:=Hd (show a2e nm (spec.take (k+1))=a2e nm (spec.take k)++Utf8.encode y by rw[HST.out,c2p hy]);have CW:=a8y w1.heap.size _ y hfy wr HBL HLB HZ;rw[c0h,←HQ.out] at CW;have HCW:=Hd CW;clear CW hy
    go_wp2_with fail
    refine HCW.mono ?_;rintro e3 w3 ⟨⟨n3,rfl⟩,hl3,hb3,_⟩;have G1:=Hd hl3;have G2:=Hd (HBW.trans hb3);clear hl3 hb3;go_wp2;go_roundw
    case rel=>exact⟨k+1,by omega,by go_num,G1,G2⟩
    case measure=>simp[intOf];omega
  ·have hkn:k=n:=by omega
   subst hkn;have HE:=Hd (show spec.take k=spec from List.take_of_length_le (by have:=HAL.out;omega));have CS:=a6d w1.heap.size _ wr HBL HZ;rw[HE.out,c6n] at CS;have HCS:=Hd CS;clear CS
   go_wp2_with fail
   refine HCS.mono ?_;rintro e3 w3 ⟨rfl,hb3⟩;have G2:=Hd (HBW.trans hb3);clear hb3;go_wp2;go_ret;exact⟨rfl,a4o HB G2⟩
end Go.Proofs.YtdcmanhgekjhgaaDoor
