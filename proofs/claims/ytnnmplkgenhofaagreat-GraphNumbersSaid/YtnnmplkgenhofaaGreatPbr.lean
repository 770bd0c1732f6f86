import Derived.Test.YtnnmplkgenhofaaGreatPbf
import Derived.Test.YtnnmplkgenhofaaGreatPbq
set_option maxRecDepth 100000
set_option maxHeartbeats 12800000
namespace Go.Proofs.YtnnmplkgenhofaaGreat
open Go.RowKit
theorem nFind_any {w:World} {s:ByteArray} (r:Int) (hs:s.size≤17592186044000) :
  Calls Tryz.prog 80 #[.string s,.int .i32 r] w fun e w' => e=.returned (.int .i64 (findF (runesOf s) r))∧Below w.heap.size w w' := by
 have HR:=Hd (rit_start w s);have HB:=Hd (show Below w.heap.size w (w.iter s 0) from(Below.refl _ _).alloc (Nat.le_refl _) _);have HS:=Hd hs;clear hs
 go_enter Tryz.func80,Tryz.ntmps80
 go_wp2_with fail
 go_loopw [5] (fun v wr=>∃(pos k:Nat),v=.int .i64 k∧RIt wr w.heap.size s pos k∧r∉(runesOf s).take k∧Below w.heap.size w wr) (fun _ wr=>s.size-wr.iterPos w.heap.size)
 case atStart=>exact⟨0,0,rfl,HR.out,by simp,HB.out⟩
 case round =>
  obtain⟨pos,k,rfl,hI,hno,hB⟩:=hrel;have HI:=Hd hI;have HN:=Hd hno;have HBW:=Hd hB;clear hno;by_cases hlt:pos<s.size
  ·obtain⟨w2,x,d,hnx,hI2,hd,hx,hf,hB2,hg⟩:=rit_next hI hlt hB (Nat.le_refl _);have HI2:=Hd hI2;have HB2:=Hd hB2;have HX:=Hd hx;have hkb:=rit_bd hI hlt;have hs:=HS.out;clear hI hI2 hB hB2 hf hg hx;by_cases hxr:x=r
   ·subst hxr;have HV:=Hd (findF_at HX.out HN.out);go_wp2;go_ret;exact⟨by rw[HV.out];rfl,HB2.out⟩
   ·have dxr:(x==r)=false:=by simpa using hxr
    have HXR:=Hd hxr;clear hxr;go_wp2;go_roundw
    case rel=>exact⟨pos+d,k+1,by go_num,HI2.out,by
     rw[List.take_add_one,HX.out];intro hm;rcases List.mem_append.1 hm with hm|hm
     ·exact HN.out hm
     ·exact HXR.out (List.mem_singleton.1 hm).symm,HB2.out⟩
    case measure=>rw[rit_pos HI2.out,rit_pos HI.out];omega
  ·have hnx:=rit_over hI hlt;have HV:=Hd (show findF (runesOf s) r = -1 from findF_none (by have h1:=HN.out;rwa [List.take_of_length_le (rit_end hI hlt)] at h1));clear hI hB;go_wp2;go_ret;exact⟨by rw[HV.out];rfl,HBW.out⟩
open Classical in
noncomputable def goodR (x:Int):Bool:=decide (¬ badR x)
theorem goodR_yes {x:Int} (h:¬ badR x):goodR x=true:=by unfold goodR;simpa using h
theorem goodR_no {x:Int} (h:badR x):goodR x=false:=by unfold goodR;simpa using h
theorem nMay_any {w:World} (x:Int) :
  Calls Tryz.prog 79 #[.int .i32 x] w fun e w' => e=.returned (.bool (goodR x))∧w=w' := by
 by_cases b1:x=46
 ·subst b1;have HG:=Hd (goodR_no (x:=46) (by unfold badR;omega))
  go_enter Tryz.func79,Tryz.ntmps79
  go_wp2;go_ret;exact⟨by rw[HG.out];rfl,by trivial⟩
 by_cases b2:x=45
 ·subst b2;have HG:=Hd (goodR_no (x:=45) (by unfold badR;omega))
  go_enter Tryz.func79,Tryz.ntmps79
  go_wp2;go_ret;exact⟨by rw[HG.out];rfl,by trivial⟩
 by_cases b3:x=40
 ·subst b3;have HG:=Hd (goodR_no (x:=40) (by unfold badR;omega))
  go_enter Tryz.func79,Tryz.ntmps79
  go_wp2;go_ret;exact⟨by rw[HG.out];rfl,by trivial⟩
 by_cases b4:x=41
 ·subst b4;have HG:=Hd (goodR_no (x:=41) (by unfold badR;omega))
  go_enter Tryz.func79,Tryz.ntmps79
  go_wp2;go_ret;exact⟨by rw[HG.out];rfl,by trivial⟩
 by_cases b5:x=65533
 ·subst b5;have HG:=Hd (goodR_no (x:=65533) (by unfold badR;omega))
  go_enter Tryz.func79,Tryz.ntmps79
  go_wp2;go_ret;exact⟨by rw[HG.out];rfl,by trivial⟩
 have d1:(x==46)=false:=by simpa using b1
 have d2:(x==45)=false:=by simpa using b2
 have d3:(x==40)=false:=by simpa using b3
 have d4:(x==41)=false:=by simpa using b4
 have d5:(x==65533)=false:=by simpa using b5
 have HG:=Hd (show decide ((33:Int)≤x)=goodR x by
  by_cases b0:x<33
  ·rw[goodR_no (by unfold badR;omega)];simp;omega
  ·rw[goodR_yes (by unfold badR;omega)];simp;omega)
 clear b1 b2 b3 b4 b5
 go_enter Tryz.func79,Tryz.ntmps79
 go_wp2;go_ret;exact⟨by rw[← HG.out];rfl,by trivial⟩
theorem nRight_any {w:World} {s:ByteArray} (nn:Int) (hs:s.size≤17592186044000) :
  Calls Tryz.prog 40 #[.string s,.int .i64 nn] w fun e w' => e=.returned (.bool (rightB (runesOf s) nn))∧Below w.heap.size w w' := by
 have HR:=Hd (rit_start w s);have HB:=Hd (show Below w.heap.size w (w.iter s 0) from(Below.refl _ _).alloc (Nat.le_refl _) _);have HS:=Hd hs;clear hs
 go_enter Tryz.func40,Tryz.ntmps40
 by_cases g0:nn<0
 ·have dg0:decide (nn<0)=true:=by simpa using g0
  have HX:=Hd (rightB_no (l:=runesOf s) (n:=nn) (fun h=>by have:=h.1;omega));go_wp2;go_ret;exact⟨ret_bool HX.out.symm,Below.refl _ _⟩
 have dg0:decide (nn<0)=false:=by simpa using g0
 by_cases g1:3<nn
 ·have dg1:decide (3<nn)=true:=by simpa using g1
  have HX:=Hd (rightB_no (l:=runesOf s) (n:=nn) (fun h=>by have:=h.2.1;omega));go_wp2;go_ret;exact⟨ret_bool HX.out.symm,Below.refl _ _⟩
 have dg1:decide (3<nn)=false:=by simpa using g1
 go_wp2_with fail
 go_loopw [5] (fun v wr=>∃(pos k:Nat),v=.int .i64 k∧(k:Int)≤nn∧k≤(runesOf s).length∧RIt wr w.heap.size s pos k∧(∀ j,j<k→RightAt (runesOf s) j)∧Below w.heap.size w wr) (fun _ wr=>s.size-wr.iterPos w.heap.size)
 case atStart=>exact⟨0,0,rfl,by omega,by omega,HR.out,fun j hj=>by omega,HB.out⟩
 case round =>
  obtain⟨pos,k,rfl,hk3,hkl9,hI,hall,hB⟩:=hrel;have HI:=Hd hI;have HALL:=Hd hall;have HBW:=Hd hB;clear hall;by_cases hlt:pos<s.size
  ·obtain⟨w2,x,d,hnx,hI2,hd,hx,hf,hB2,hg⟩:=rit_next hI hlt hB (Nat.le_refl _);have HI2:=Hd hI2;have HB2:=Hd hB2;have HX:=Hd hx;have hkb:=rit_bd hI hlt;have hs:=HS.out;have hkl:k<(runesOf s).length:=(List.getElem?_eq_some_iff.1 hx).1;have HBAD:=Hd (show ¬ (¬ badR x∧findF (runesOf s) x=k)→rightB (runesOf s) nn=false from fun hb=>rightB_no fun h=>hb (h.2.2.2 k x HX.out));clear hI hI2 hB hB2 hf hg hx;by_cases gk:(k:Int)=nn
   ·have dgk:((k:Int)==nn)=true:=by simpa using gk
    have HV:=Hd (rightB_no (l:=runesOf s) (n:=nn) (fun h=>by have:=h.2.2.1;omega));go_wp2;go_ret;exact⟨ret_bool HV.out.symm,HB2.out⟩
   have dgk:((k:Int)==nn)=false:=by simpa using gk
   have CM:=fun w:World=>nMay_any (w:=w) x
   by_cases bx:badR x
   ·have HV:=Hd (HBAD.out (fun h=>h.1 bx));simp only[goodR_no bx] at CM;clear bx
    go_wp2_with fail
    refine(CM _).mono ?_;rintro e3 w3 ⟨rfl,rfl⟩;clear CM;go_wp2;go_ret;exact⟨ret_bool HV.out.symm,HB2.out⟩
   have HNB:=Hd bx;simp only[goodR_yes bx] at CM;clear bx;have CF:=nFind_any (w:=w2) (s:=s) x HS.out;obtain⟨f,hf2⟩:∃ f,findF (runesOf s) x=f:=⟨_,rfl⟩;rw[hf2] at CF;have HF:=Hd hf2;have hfb:=findF_bd (runesOf s) x;rw[hf2] at hfb;clear hf2
   go_wp2_with fail
   refine(CM _).mono ?_;rintro e3 w3 ⟨rfl,rfl⟩;clear CM
   go_wp2_with fail
   refine CF.mono ?_;rintro e4 w4 ⟨rfl,hb4⟩;have HI4:=Hd (rit_below HI2.out hb4 (rit_lt HI2.out));have HB4:=Hd (then_ HB2.out hb4);clear CF hb4;by_cases gf:f<(k:Int)
   ·have dgf:decide (f<(k:Int))=true:=by simpa using gf
    have HV:=Hd (HBAD.out (fun h=>by have:=h.2;rw[HF.out] at this;omega));go_wp2;go_ret;exact⟨ret_bool HV.out.symm,HB4.out⟩
   have dgf:decide (f<(k:Int))=false:=by simpa using gf
   have HFK:=Hd (show findF (runesOf s) x=k by
    have hm:findF (runesOf s) x≤k:=by
     by_cases hin:x∈(runesOf s).take k
     ·exact Int.le_of_lt (findF_in hin)
     ·rw[findF_at HX.out hin];exact Int.le_refl _
    rw[HF.out] at hm ⊢;omega)
   go_wp2;go_roundw
   case rel=>exact⟨pos+d,k+1,by go_num,by omega,by omega,HI4.out,fun j hj=>by
    rcases Nat.lt_or_ge j k with h|h
    ·exact HALL.out j h
    ·obtain rfl:j=k:=by omega
     intro y hy;rw[HX.out] at hy;injection hy with hy
     subst hy
     exact⟨HNB.out,HFK.out⟩,HB4.out⟩
   case measure=>rw[rit_pos HI4.out,rit_pos HI.out];omega
  ·have hnx:=rit_over hI hlt;have hle:=rit_end hI hlt
   have HV:=Hd (show((k:Int)==nn)=rightB (runesOf s) nn by
    by_cases gk:(k:Int)=nn
    ·rw[rightB_yes ⟨by omega,by omega,by omega,fun j x hj=>by
      rcases Nat.lt_or_ge j k with h|h
      ·exact HALL.out j h x hj
      ·have:=(List.getElem?_eq_some_iff.1 hj).1;omega⟩]
     simpa using gk
    ·rw[rightB_no (fun h=>gk (by have:=h.2.2.1;omega))]
     simpa using gk)
   clear hI hB hle;go_wp2;go_ret;exact⟨ret_bool HV.out,HBW.out⟩
theorem noteR_bad2 {nm l:List Int} {rank:Int} (g:noteL nm [] l=none):noteR nm l rank=([],false,14):=by
 rcases Nat.lt_or_ge 16 l.length with h|h
 ·exact noteR_long h
 ·exact noteR_bad h g
theorem nNote_any {w:World} {s t:ByteArray} (rank:Int) (hs:s.size≤17592186044000) (ht:t.size≤17592186044000) :
  Calls Tryz.prog 81 #[.string s,.string t,.int .i64 rank] w fun e w' => (∃ v m,e=.returned (.tuple #[v,.bool (noteR (runesOf s) (runesOf t) rank).2.1,.int .i64 (noteR (runesOf s) (runesOf t) rank).2.2])∧OwnS w' w.heap.size 3 v m (noteR (runesOf s) (runesOf t) rank).1)∧Below w.heap.size w w' := by
 have HR:=Hd (rit_start w t);have HB:=Hd (show Below w.heap.size w (w.iter t 0) from(Below.refl _ _).alloc (Nat.le_refl _) _);have HZ:=Hd (show w.heap.size+1≤(w.iter t 0).heap.size by simp[World.iter]);have HS:=Hd hs;have HT:=Hd ht;obtain⟨nm,hnm⟩:∃ l,runesOf s=l:=⟨_,rfl⟩;have HNM:=Hd hnm;have HNB:=Hd (show nm.length≤17592186044000 by rw[← hnm];exact Nat.le_trans (runesOf_length s) hs);rw[hnm];clear hs ht hnm
 go_enter Tryz.func81,Tryz.ntmps81
 go_wp2_with fail
 go_loopw [9,10] (fun sv cv wr=>∃(pos k m:Nat) (out:List Int),cv=.int .i64 k∧k≤16∧m≤k∧k≤(runesOf t).length∧RIt wr w.heap.size t pos k∧OwnS wr (w.heap.size+1) 3 sv m out∧noteL nm [] (runesOf t)=noteL nm out ((runesOf t).drop k)∧w.heap.size+1≤wr.heap.size∧Below w.heap.size w wr) (fun _ _ wr=>t.size-wr.iterPos w.heap.size)
 case atStart=>exact⟨0,0,0,[],rfl,by omega,by omega,by omega,HR.out,OwnS.nil_ _ _ _,rfl,HZ.out,HB.out⟩
 case round =>
  obtain⟨pos,k,m,out,rfl,hk,hm,hkl9,hI,hO,hnl,hz,hB⟩:=hrel;have HI:=Hd hI;have HNL:=Hd hnl;have HBW:=Hd hB;have HZW:=Hd hz;clear hnl hz;by_cases hlt:pos<t.size
  ·obtain⟨w2,x,d,hnx,hI2,hd,hx,hf,hB2,hg⟩:=rit_next hI hlt hB (Nat.le_refl _);have hO2:=hO.grown hg (by omega);have HI2:=Hd hI2;have HO2:=Hd hO2;have HB2:=Hd hB2;have HX:=Hd hx;have HZ2:=Hd (show w.heap.size+1≤w2.heap.size by have:=hg.size;have:=HZW.out;omega);have hkl:k<(runesOf t).length:=(List.getElem?_eq_some_iff.1 hx).1;clear hI hI2 hO hO2 hB hB2 hf hg hx;by_cases g0:16<k+1
   ·have dg0:decide (16<k+1)=true:=by simpa using g0
    have HV:=Hd (noteR_long (nm:=nm) (l:=runesOf t) (rank:=rank) (by omega));go_wp2;go_ret3;rw[HV.out];exact⟨⟨_,0,rfl,OwnS.nil_ _ _ _⟩,HB2.out⟩
   have dg0:decide (16<k+1)=false:=by simpa using g0
   by_cases b0:x=32
   ·subst b0;have HQ:=Hd (HNL.out.trans (noteL_blank (out:=out) HX.out));go_wp2;go_roundw
    case rel=>exact⟨pos+d,k+1,m,out,by go_num,by omega,by omega,by omega,HI2.out,HO2.out,HQ.out,HZ2.out,HB2.out⟩
    case measure=>rw[rit_pos HI2.out,rit_pos HI.out];omega
   have db0:(x==32)=false:=by simpa using b0
   have CF:=nFind_any (w:=w2) (s:=s) x HS.out;rw[HNM.out] at CF;have HB0:=Hd b0;clear b0
   go_wp2_with fail
   refine CF.mono ?_;rintro e4 w4 ⟨rfl,hb4⟩;have HI4:=Hd (rit_below HI2.out hb4 (rit_lt HI2.out));have HO4:=Hd (HO2.out.below hb4);have HZ4:=Hd (show w.heap.size+1≤w4.heap.size from Nat.le_trans HZ2.out hb4.size);have HB4:=Hd (then_ HB2.out hb4);have HOL:=Hd HO4.out.len;clear CF hb4;obtain⟨f,hf2⟩:∃ f,findF nm x=f:=⟨_,rfl⟩;have HF:=Hd hf2;have hfb:=findF_bd nm x;rw[hf2] at hfb ⊢;clear hf2;have hnb:=HNB.out;by_cases b1:x=46
   ·subst b1;have HQ:=Hd (HNL.out.trans (noteL_point (out:=out) HX.out))
    go_wp2_with (at_builtin;refine wpList_append_int rfl _ _ 22 3 rfl Tryz.underlying22 Tryz.infoInt9 (w.heap.size+1) _ m out rfl HO4.out HZ4.out (-1) ⟨by omega,by omega⟩ _ rfl ?c1 ?_)
    case c1=>omega
    intro v' w' h1 h2 h3;have HI5:=Hd (rit_below HI4.out h2 (by omega));have G1:=Hd h1;have G2:=Hd (HB4.out.trans (h2.mono (by omega)));have GZ:=Hd (show w.heap.size+1≤w'.heap.size from Nat.le_trans HZ4.out h2.size);clear h1 h2 h3;go_wp2;go_roundw
    case rel=>exact⟨pos+d,k+1,m+1,out++[-1],by go_num,by omega,by omega,by omega,HI5.out,G1.out,HQ.out,GZ.out,G2.out⟩
    case measure=>rw[rit_pos HI5.out,rit_pos HI.out];omega
   have db1:(x==46)=false:=by simpa using b1
   have HB1:=Hd b1;clear b1;by_cases b2:f<0
   ·have db2:decide (f<0)=true:=by simpa using b2
    have HV:=Hd (noteR_bad2 (rank:=rank) (HNL.out.trans (noteL_none HX.out HB0.out HB1.out (by rw[HF.out];exact b2))));go_wp2;go_ret3;rw[HV.out];exact⟨⟨_,0,rfl,OwnS.nil_ _ _ _⟩,HB4.out⟩
   have db2:decide (f<0)=false:=by simpa using b2
   have HB2' := Hd (show ¬ findF nm x<0 by rw[HF.out];exact b2);have CC:=contains_any HO4.out f;by_cases b3:f∈out
   ·have HV:=Hd (noteR_bad2 (rank:=rank) (HNL.out.trans (noteL_twice HX.out HB0.out HB1.out HB2'.out (by rw[HF.out];exact b3))));rw[show out.contains f=true from by simpa using b3] at CC;clear b3
    go_wp2_with fail
    refine CC.mono ?_;rintro e5 w5 ⟨rfl,rfl⟩;clear CC;go_wp2;go_ret3;rw[HV.out];exact⟨⟨_,0,rfl,OwnS.nil_ _ _ _⟩,HB4.out⟩
   have HQ:=Hd (HNL.out.trans (noteL_name (out:=out) HX.out HB0.out HB1.out HB2'.out (by rw[HF.out];exact b3)));rw[show out.contains f=false from by simpa using b3] at CC;clear b3
   go_wp2_with fail
   refine CC.mono ?_;rintro e5 w5 ⟨rfl,rfl⟩;clear CC
   go_wp2_with (at_builtin;refine wpList_append_int rfl _ _ 22 3 rfl Tryz.underlying22 Tryz.infoInt9 (w.heap.size+1) _ m out rfl HO4.out HZ4.out f ⟨by omega,by omega⟩ _ rfl ?c1 ?_)
   case c1=>omega
   intro v' w' h1 h2 h3;have HI5:=Hd (rit_below HI4.out h2 (by omega));have G1:=Hd h1;have G2:=Hd (HB4.out.trans (h2.mono (by omega)));have GZ:=Hd (show w.heap.size+1≤w'.heap.size from Nat.le_trans HZ4.out h2.size);clear h1 h2 h3;go_wp2;go_roundw
   case rel=>exact⟨pos+d,k+1,m+1,out++[f],by go_num,by omega,by omega,by omega,HI5.out,G1.out,by rw[← HF.out];exact HQ.out,GZ.out,G2.out⟩
   case measure=>rw[rit_pos HI5.out,rit_pos HI.out];omega
  ·have hnx:=rit_over hI hlt;have hle:=rit_end hI hlt;have HN16:=Hd (show(runesOf t).length≤16 by omega);have HE:=Hd (HNL.out.trans (noteL_end (out:=out) hle));have HOL:=Hd hO.len;have HOW:=Hd (hO.mono (by omega:w.heap.size≤w.heap.size+1));obtain⟨Ao,co,hv,hco,_,_⟩:=hO.form;subst hv;clear hI hO hB hle;by_cases m0:m=0
   ·have dm0:((m:Int)==0)=true:=by simpa using m0
    have HOU:out=[]:=List.eq_nil_of_length_eq_zero (by rw[HOL.out];exact m0);have HV:=Hd (noteR_blank (rank:=rank) HN16.out (by rw[HE.out,HOU]));clear HOU;clear m0;go_wp2;go_ret3;rw[HV.out];exact⟨⟨_,0,rfl,OwnS.nil_ _ _ _⟩,HBW.out⟩
   have dm0:((m:Int)==0)=false:=by simpa using m0
   have HNE:=Hd (show out≠[] from fun h=>m0 (by have:=HOL.out;rw[h] at this;simpa using this.symm));clear m0;by_cases r0:(m:Int)=rank
   ·subst r0;have dr0:((m:Int) != (m:Int))=false:=by simp
    have HV:=Hd (noteR_ok (rank:=(m:Int)) HN16.out HE.out HNE.out (by rw[HOL.out]));go_wp2;go_ret3;rw[HV.out];exact⟨⟨_,m,rfl,HOW.out⟩,HBW.out⟩
   ·have dr0:((m:Int) != rank)=true:=by simpa using r0
    have HV:=Hd (noteR_rank (rank:=rank) HN16.out HE.out HNE.out (by rw[HOL.out];exact r0));go_wp2;go_ret3;rw[HV.out];exact⟨⟨_,0,rfl,OwnS.nil_ _ _ _⟩,HBW.out⟩
def NodK (w:World) (us:List Value) (N:List NodeV):Prop :=
 us.length=N.length*7∧∀(j:Nat) (nd:NodeV),N[j]? = some nd→∃ A na ca B nb cb C nc cc,(∀ i,i<7→us[j*7+i]? = (nodeCells nd A na ca B nb cb C nc cc)[i]?)∧NodeL w nd A na ca B nb cb C nc cc
theorem nodK_nil (w:World):NodK w [] []:=⟨rfl,fun j nd h=>by simp at h⟩
theorem NodK.below {w w' : World} {us:List Value} {N:List NodeV} (h:NodK w us N) (hb:Below w.heap.size w w'):NodK w' us N :=
 ⟨h.1,fun j nd hj=>by
  obtain⟨A,na,ca,B,nb,cb,C,nc,cc,h1,h2⟩:=h.2 j nd hj
  exact⟨A,na,ca,B,nb,cb,C,nc,cc,h1,h2.below hb⟩⟩
theorem NodK.append {w:World} {us vs:List Value} {N M:List NodeV} (h:NodK w us N) (g:NodK w vs M):NodK w (us++vs) (N++M):=by
 refine⟨by rw[List.length_append,List.length_append,h.1,g.1];omega,fun j nd hj=>?_⟩;rcases Nat.lt_or_ge j N.length with hl|hl
 ·rw[List.getElem?_append_left hl] at hj;obtain⟨A,na,ca,B,nb,cb,C,nc,cc,h1,h2⟩:=h.2 j nd hj;refine⟨A,na,ca,B,nb,cb,C,nc,cc,fun i hi=>?_,h2⟩;rw[List.getElem?_append_left (by have:=h.1;omega)];exact h1 i hi
 ·rw[List.getElem?_append_right hl] at hj;obtain⟨A,na,ca,B,nb,cb,C,nc,cc,h1,h2⟩:=g.2 _ nd hj;refine⟨A,na,ca,B,nb,cb,C,nc,cc,fun i hi=>?_,h2⟩;have:=h.1;rw[List.getElem?_append_right (by omega),show j*7+i-us.length=(j-N.length)*7+i by omega];exact h1 i hi
theorem nodK_one {w:World} {nd:NodeV} {A:Option Addr} {na ca:Nat} {B:Option Addr} {nb cb:Nat} {C:Option Addr} {nc cc:Nat} (h:NodeL w nd A na ca B nb cb C nc cc):NodK w (nodeCells nd A na ca B nb cb C nc cc) [nd] :=
 ⟨rfl,fun j x hj=>by
  have hj0:j=0:=by
   rcases Nat.eq_zero_or_pos j with e|e
   ·exact e
   ·rw[List.getElem?_eq_none (by simp;omega)] at hj;cases hj
  subst hj0;injection hj with hj;subst hj
  exact⟨A,na,ca,B,nb,cb,C,nc,cc,fun i _=>by rw[Nat.zero_mul,Nat.zero_add],h⟩⟩
def set7 (us:List Value) (k:Nat) (v0 v1 v2 v3 v4 v5 v6:Value):List Value :=
 ((((((us.set k v0).set (k+1) v1).set (k+2) v2).set (k+3) v3).set (k+4) v4).set (k+5) v5).set (k+6) v6
theorem set7_other {us:List Value} {k i:Nat} {v0 v1 v2 v3 v4 v5 v6:Value} (h:i<k∨k+7≤i):(set7 us k v0 v1 v2 v3 v4 v5 v6)[i]? = us[i]? := by
 unfold set7
 repeat rw[List.getElem?_set_ne (by omega)]
theorem set7_at {us:List Value} {k:Nat} {v0 v1 v2 v3 v4 v5 v6:Value} (hk:k+7≤us.length) {i:Nat} (hi:i<7):(set7 us k v0 v1 v2 v3 v4 v5 v6)[k+i]? = [v0,v1,v2,v3,v4,v5,v6][i]? := by
 unfold set7;have hc:i=0∨i=1∨i=2∨i=3∨i=4∨i=5∨i=6:=by omega
 rcases hc with rfl|rfl|rfl|rfl|rfl|rfl|rfl
 ·repeat rw[List.getElem?_set_ne (by omega)]
  rw[Nat.add_zero,List.getElem?_set_self (by omega)];rfl
 ·repeat rw[List.getElem?_set_ne (by omega)]
  rw[List.getElem?_set_self (by simp;omega)];rfl
 ·repeat rw[List.getElem?_set_ne (by omega)]
  rw[List.getElem?_set_self (by simp;omega)];rfl
 ·repeat rw[List.getElem?_set_ne (by omega)]
  rw[List.getElem?_set_self (by simp;omega)];rfl
 ·repeat rw[List.getElem?_set_ne (by omega)]
  rw[List.getElem?_set_self (by simp;omega)];rfl
 ·repeat rw[List.getElem?_set_ne (by omega)]
  rw[List.getElem?_set_self (by simp;omega)];rfl
 ·rw[List.getElem?_set_self (by simp;omega)];rfl
theorem NodK.set {w:World} {us:List Value} {N:List NodeV} (h:NodK w us N) {k:Nat} (hk:k<N.length) {nd:NodeV} {A:Option Addr} {na ca:Nat} {B:Option Addr} {nb cb:Nat} {C:Option Addr} {nc cc:Nat} (g:NodeL w nd A na ca B nb cb C nc cc) :
  NodK w (set7 us (k*7) (.int .i64 nd.op) (.slice A na ca) (.slice B nb cb) (.slice C nc cc) (.int .i64 nd.n) (.int .i64 nd.how) (.string nd.note)) (N.set k nd):=by
 refine⟨by unfold set7;simp[h.1],fun j x hj=>?_⟩;by_cases e:j=k
 ·subst e;rw[List.getElem?_set_self hk] at hj;injection hj with hj;subst hj
  exact⟨A,na,ca,B,nb,cb,C,nc,cc,fun i hi=>set7_at (by have:=h.1;omega) hi,g⟩
 ·rw[List.getElem?_set_ne (fun q=>e q.symm)] at hj;obtain⟨A', na', ca', B', nb', cb', C', nc', cc', h1,h2⟩:=h.2 j x hj;refine⟨A', na', ca', B', nb', cb', C', nc', cc', fun i hi=>?_,h2⟩;rw[set7_other (by omega)];exact h1 i hi
theorem nods_cells {w:World} {A:Option Addr} {n:Nat} {N:List NodeV} (h:Nods w A n N) :
  ∃ us,NodK w us N∧us.length=n*7∧(∀ u∈us,u.oneCell' = true)∧(∀ ad,A=some ad→∀ j u,us[j]? = some u→w.cell? (ad.add j)=some u):=by
 have key:∀ m,m≤N.length→∃ us,NodK w us (N.take m)∧(∀ u∈us,u.oneCell' = true)∧(∀ ad,A=some ad→∀ j u,us[j]? = some u→w.cell? (ad.add j)=some u):=by
  intro m
  induction m with
  | zero=>exact fun _=>⟨[],nodK_nil w,by simp,by simp⟩
  | succ m ih =>
   intro hm;obtain⟨us,h1,h2,h3⟩:=ih (by omega);have hg:N[m]? = some (N[m]'(by omega)):=List.getElem?_eq_getElem (by omega);obtain⟨nd,hnd⟩:∃ nd,N[m]'(by omega)=nd:=⟨_,rfl⟩;rw[hnd] at hg;obtain⟨a,S,na,ca,B,nb,cb,C,nc,cc,e,hl,c0,c1,c2,c3,c4,c5,c6,hN⟩:=h.2.2 m nd hg;have hlen:us.length=m*7:=by rw[h1.1,List.length_take];congr 1;omega
   refine⟨us++nodeCells nd S na ca B nb cb C nc cc,?_,?_,?_⟩
   ·rw[List.take_add_one,hg];exact h1.append (nodK_one hN)
   ·intro u hu;rcases List.mem_append.1 hu with hu|hu
    ·exact h2 u hu
    ·simp only[nodeCells,List.mem_cons,List.not_mem_nil,or_false] at hu;rcases hu with rfl|rfl|rfl|rfl|rfl|rfl|rfl <;> rfl
   ·intro ad had j u hu;rw[e] at had;injection had with had;subst had
    rcases Nat.lt_or_ge j us.length with hj|hj
    ·rw[List.getElem?_append_left hj] at hu;exact h3 a e j u hu
    ·rw[List.getElem?_append_right hj] at hu;obtain⟨i,hi⟩:∃ i,j=m*7+i:=⟨j-m*7,by omega⟩;subst hi;rw[hlen,show m*7+i-m*7=i by omega] at hu
     have hi7:i<7:=by
      rcases Nat.lt_or_ge i 7 with q|q
      ·exact q
      ·rw[List.getElem?_eq_none (by simp[nodeCells];omega)] at hu;cases hu
     have adr:∀ i,0<i→a.add (m*7+i)=⟨(a.add (m*7)).block,(a.add (m*7)).off+i,none⟩:=fun i hi=>by
      by_cases hm0:m*7=0
      ·rw[hm0];simp[Addr.add];omega
      ·simp[Addr.add,hm0];omega
     have hc:i=0∨i=1∨i=2∨i=3∨i=4∨i=5∨i=6:=by omega
     rcases hc with rfl|rfl|rfl|rfl|rfl|rfl|rfl
     ·rw[Nat.add_zero,c0];exact hu
     ·rw[adr 1 (by omega),c1];exact hu
     ·rw[adr 2 (by omega),c2];exact hu
     ·rw[adr 3 (by omega),c3];exact hu
     ·rw[adr 4 (by omega),c4];exact hu
     ·rw[adr 5 (by omega),c5];exact hu
     ·rw[adr 6 (by omega),c6];exact hu
 obtain⟨us,h1,h2,h3⟩:=key N.length (Nat.le_refl _);rw[List.take_length] at h1;exact⟨us,h1,by rw[h1.1,h.1],h2,h3⟩
theorem row_nods {w0 w:World} {l:List Chunk} {v:Value} {n:Nat} {us:List Value} {N:List NodeV} (i:Nat) (h:Sep w0 w l) (hi:l[i]? = some (.row 34 7 v n us)) (hK:NodK w us N) (hn:N.length=n) (hn2:n≤900) :
  ∃ A c,v=.slice A n c∧n≤c∧Nods w A n N:=by
 have hr:w.ownsRow w0.heap.size 34 7 v n us:=h.at_ i hi;rcases Nat.eq_zero_or_pos n with e|e
 ·subst e;have hT:∀ A,Nods w A 0 N:=fun A=>⟨hn,by omega,fun j t ht=>by rw[List.eq_nil_of_length_eq_zero hn] at ht;simp at ht⟩
  rcases hr.2 with ⟨hv,_⟩|⟨g,cap,cur,hv,_⟩
  ·exact⟨none,0,hv,Nat.le_refl _,hT _⟩
  ·exact⟨_,cap,hv,Nat.zero_le _,hT _⟩
 ·obtain⟨g,c,rfl,hc⟩:=h.rowForm i hi e;refine⟨_,c,rfl,hc,hn,hn2,fun j nd hs=>?_⟩;have hj:j<N.length:=(List.getElem?_eq_some_iff.1 hs).1;obtain⟨A,na,ca,B,nb,cb,C,nc,cc,h1,h2⟩:=hK.2 j nd hs;have hlt:=(World.ownsRow.lt hr g rfl).2;have hc0:∀ k:Nat,k<7→w.cell? ⟨g,j*7+k,none⟩=(nodeCells nd A na ca B nb cb C nc cc)[k]? := fun k hk=>(hr.cellAt (j*7+k) (by omega)).trans (h1 k hk)
  refine⟨⟨g,0,none⟩,A,na,ca,B,nb,cb,C,nc,cc,rfl,hlt,?_,?_,?_,?_,?_,?_,?_,h2⟩
  ·rw[addrL0];exact hc0 0 (by omega)
  ·rw[addrL0];exact hc0 1 (by omega)
  ·rw[addrL0];exact hc0 2 (by omega)
  ·rw[addrL0];exact hc0 3 (by omega)
  ·rw[addrL0];exact hc0 4 (by omega)
  ·rw[addrL0];exact hc0 5 (by omega)
  ·rw[addrL0];exact hc0 6 (by omega)
theorem Sep.setRow {w0 w:World} {l:List Chunk} (h:Sep w0 w l) (i:Nat) {e:TypeId} {k g n c:Nat} {us:List Value} (hi:l[i]? = some (.row e k (.slice (some ⟨g,0,none⟩) n c) n us)) (j:Nat) (u:Value) :
  Sep w0 (w.setCell ⟨g,j,none⟩ u) (l.set i (.row e k (.slice (some ⟨g,0,none⟩) n c) n (us.set j u))):=by
 have hr:w.ownsRow w0.heap.size e k (.slice (some ⟨g,0,none⟩) n c) n us:=h.at_ i hi;obtain⟨h1,h2⟩:=hr.stored j u;exact h.change i hi h2 h1 fun b hb=>.inl hb
theorem Sep.cellRow {w0 w:World} {l:List Chunk} (h:Sep w0 w l) (i:Nat) {e:TypeId} {k g n c:Nat} {us:List Value} (hi:l[i]? = some (.row e k (.slice (some ⟨g,0,none⟩) n c) n us)) {j:Nat} {u:Value} (hj:us[j]? = some u):w.cell? ⟨g,j,none⟩=some u:=by
 have hr:w.ownsRow w0.heap.size e k (.slice (some ⟨g,0,none⟩) n c) n us:=h.at_ i hi;have hl:=(List.getElem?_eq_some_iff.1 hj).1;have:=hr.1;exact(hr.cellAt j (by omega)).trans hj
theorem Sep.frozenRow {w0 w:World} {l:List Chunk} (h:Sep w0 w l) (i:Nat) {e:TypeId} {k g n c:Nat} {us:List Value} (hi:l[i]? = some (.row e k (.slice (some ⟨g,0,none⟩) n c) n us)) (j:Nat):w.frozen? ⟨g,j,none⟩=false:=by
 have hr:w.ownsRow w0.heap.size e k (.slice (some ⟨g,0,none⟩) n c) n us:=h.at_ i hi;exact hr.frozenAt j
theorem Sep.emptyRow {w0 w:World} {l:List Chunk} (h:Sep w0 w l):Sep w0 (w.alloc (.cells #[] 34)) (.row 34 7 (.slice (some ⟨w.heap.size,0,none⟩) 0 0) 0 []::l):=by
 refine h.pushNew (h.below ((Below.refl _ _).alloc (Nat.le_refl _) _)) ?_ fun k hk=>by
  have hk:some w.heap.size=some k:=hk;injection hk with hk;omega
 exact World.ownsRow_lit w #[] 0 h.size (Nat.zero_le _) rfl
structure NodC (w:World) (A:Option Addr) (m:Nat) (vs:List Value):Prop where
 len:vs.length=m*7
 one:∀ u∈vs,u.oneCell' = true
 at_:∀ ad,A=some ad→∀ j u,vs[j]? = some u→w.cell? (ad.add j)=some u
 none_:A=none→m=0
 few:m≤900
theorem nods_c {w:World} {A:Option Addr} {m:Nat} {M:List NodeV} (hM:Nods w A m M):∃ vs,NodK w vs M∧NodC w A m vs:=by
 obtain⟨vs,k1,k2,k3,k4⟩:=nods_cells hM;refine⟨vs,k1,k2,k3,k4,fun e=>?_,hM.2.1⟩;rcases Nat.eq_zero_or_pos m with h|h
 ·exact h
 ·obtain⟨x,hx⟩:∃ x,M[0]? = some x:=⟨_,List.getElem?_eq_getElem (by have:=hM.1;omega)⟩;obtain⟨a0,_,_,_,_,_,_,_,_,_,e0,_⟩:=hM.2.2 0 x hx;rw[e] at e0;cases e0
theorem NodC.below {w w' : World} {A:Option Addr} {m:Nat} {vs:List Value} (h:NodC w A m vs) (hb:Below w.heap.size w w'):NodC w' A m vs :=
 ⟨h.len,h.one,fun ad e j u hu=>(hb.cell (World.block_lt_of_cell? _ _ (h.at_ ad e j u hu))).trans (h.at_ ad e j u hu),h.none_,h.few⟩
theorem wpList_append_nods {w0 w:World} {ops:Array Oper} {rest:List Oper} {o:Oper} {a:Act} {Q:Exit→Act→World→Prop} (hgd:o.guard=none) (s y:Operand) (t:TypeId)
  (ho:o.op=.call { callee:=.builtin .append,args:=#[s,y],argTypes:=#[t,t] }) (ht:Tryz.prog.underlying t=some (.slice 34))
  {l:List Chunk} (H:Sep w0 w l) (i:Nat) {v:Value} {n:Nat} {us:List Value} (hi:l[i]? = some (.row 34 7 v n us)) (hs:a.eval s=v) {A:Option Addr} {m c:Nat} {vs:List Value} (hy:a.eval y=.slice A m c) (hM:NodC w A m vs)
  (hn:n≤1000)
  (h:∀ v' w', Sep w0 w' (l.set i (.row 34 7 v' (n+m) (us++vs)))→wpList Tryz.prog ops Q rest (a.put o.dst v') w') :
  wpList Tryz.prog ops Q (o::rest) a w:=by
 obtain⟨ti,g1,g2,g3,g4⟩:=infoNode_parts;have hr:w.ownsRow w0.heap.size 34 7 v n us:=H.at_ i hi;have hfew:=hM.few
 cases A with
 | some ad =>
  refine wpList_append_own_at _ hgd s y t ho w0.heap.size 34 ti _ 7 112 ht g1 g2 g3 g4 (by rfl) (by omega) v n us hs hr ad m c vs hy hM.len (hM.at_ ad rfl) hM.one (by unfold maxLen;omega) (by omega) H.size ?_;intro v' w' h5 h6 _ h8
  exact h v' w' (H.change i hi h6 h5 fun b hb=>by
   have hb:v'.ownBlock=some b:=hb;rcases h8 with e|e
   ·exact .inl (e.symm.trans hb)
   ·rw[e] at hb;injection hb with hb;subst hb;exact .inr (Nat.le_refl _))
 | none =>
  have hm:m=0:=hM.none_ rfl;subst hm;have hvs:vs=[]:=List.eq_nil_of_length_eq_zero (by have:=hM.len;omega)
  have hrun:(Builtin.append_ #[t,t] o.type #[v,.slice none 0 c]).run Tryz.prog w=.ok v w:=by
   rcases hr.2 with ⟨rfl,rfl⟩|⟨g,cap,cur,rfl,_,_,hnc,_⟩
   ·simp[Builtin.append_,run_underlying ht,sizeOf,typeInfo,g1,Builtin.lenOf,Builtin.firstCells]
   ·simp[Builtin.append_,run_underlying ht,sizeOf,typeInfo,g1,Builtin.lenOf,Builtin.firstCells,hnc,storeCells]
  refine wpList_plain hgd fun K hK=>?_
  unfold Oper.wp execOp;simp only[ho,resolve,invoke,builtin,Sem.run_bind,Sem.run_pure,Result.andThen_ok,List.map_toArray,List.map_cons,List.map_nil,hs,hy,hrun]
  have hset:l.set i (.row 34 7 v (n+0) (us++vs))=l:=by
   rw[hvs,List.append_nil,Nat.add_zero];apply List.ext_getElem?;intro j;by_cases e:j=i
   ·subst e;rw[List.getElem?_set_self (List.getElem?_eq_some_iff.1 hi).1,hi]
   ·rw[List.getElem?_set_ne (fun q=>e q.symm)]
  exact hK _ _ (h v w (by rw[hset];exact H))
end Go.Proofs.YtnnmplkgenhofaaGreat
